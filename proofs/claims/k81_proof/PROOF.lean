import PyProof.Rows.All
import Wide.All
import OpenK.AllK
import Wide.FinOn
import Lean
import PyProof.EqAt
import PyProof.EqKinds
import PyProof.TupleCall
import KE.KIntText
import KE.KRevIter
import PyProof.CollectIter
import PyProof.ListNew
import PyProof.StrBlockH
import PyProof.StrWalks
import PyProof.StrLawsChain
import PyProof.StrLawsTight
import KE.IntTextText
import PySem.Challenge.RW_longrounds_k81_texts_there_and_back
set_option Elab.async false
set_option linter.all false
set_option maxRecDepth 100000
set_option genSizeOf false
set_option maxHeartbeats 4000000
noncomputable section
namespace L2
open PySem PySem.Spec PyProof.Rows
noncomputable abbrev Key:=Sum Int Str
noncomputable def x8n:Key->Value->Bool
 | .inl k,v=>Value.isInt k v
 | .inr x,v=>Value.isStrOf x v
noncomputable def keyH(w:World):Key->Int
 | .inl k=>hashInt k
 | .inr x=>hashStr w x
theorem z1t:∀{k:Key} {v:Value},x8n k v=true->(∃i t,k=Sum.inl i/\v=Value.int i t)∨(∃x t,k=Sum.inr x/\v=Value.str x t)
 | .inl i,v,h=>by
   obtain⟨t,e⟩:=Value.isInt_shape (k:=i) (v:=v) h
   exact .inl ⟨i,t,rfl,e⟩
 | .inr x,v,h=>by
   obtain⟨t,e⟩:=Value.isStrOf_shape (x:=x) (v:=v) h
   exact .inr ⟨x,t,rfl,e⟩
theorem x8m(a b:Int):decide ((Sum.inl a:Key)=Sum.inl b)=(a==b):=by
 by_cases e:a=b
 ·subst e;simp
 ·have h:¬(Sum.inl a:Key)=Sum.inl b:=fun q=>e (Sum.inl.inj q)
  rw[decide_eq_false h]
  exact(beq_eq_false_iff_ne.mpr e).symm
theorem x8j(a b:Str):decide ((Sum.inr a:Key)=Sum.inr b)=decide (a=b):=by
 by_cases e:a=b
 ·subst e;simp
 ·have h:¬(Sum.inr a:Key)=Sum.inr b:=fun q=>e (Sum.inr.inj q)
  rw[decide_eq_false h,decide_eq_false e]
theorem x8l(a:Int)(b:Str):decide ((Sum.inl a:Key)=Sum.inr b)=false:=decide_eq_false (fun q=>nomatch q)
theorem x8k(a:Str)(b:Int):decide ((Sum.inr a:Key)=Sum.inl b)=false:=decide_eq_false (fun q=>nomatch q)
noncomputable def y9v(prog:Program)(w:World):PySem.KeyKind prog w Key where
 is:=x8n
 hash:=keyH w
 inj:=fun v a b ha hb=>by
  rcases z1t ha with ⟨i,t,rfl,rfl⟩ | ⟨x,t,rfl,rfl⟩
  ·rcases z1t hb with ⟨j,u,rfl,e⟩ | ⟨y,u,rfl,e⟩
   ·injection e with e1 _;rw[e1]
   ·exact nomatch e
  ·rcases z1t hb with ⟨j,u,rfl,e⟩ | ⟨y,u,rfl,e⟩
   ·exact nomatch e
   ·injection e with e1 _;rw[e1]
 byValue:=fun k v h=>by
  rcases z1t h with ⟨i,t,rfl,rfl⟩ | ⟨x,t,rfl,rfl⟩<;>rfl
 pyHash:=fun hv h=>by
  rcases z1t hv with ⟨i,t,rfl,rfl⟩ | ⟨x,t,rfl,rfl⟩
  ·exact wpAny_pyHash_int h
  ·exact wpAny_pyHash_str h
 eqBool:=fun hu hv h=>by
  rcases z1t hu with ⟨i,t,rfl,rfl⟩ | ⟨x,t,rfl,rfl⟩
  ·rcases z1t hv with ⟨j,u,rfl,rfl⟩ | ⟨y,u,rfl,rfl⟩
   ·rw[x8m] at h;exact wpAny_eqBool_int h
   ·rw[x8l] at h;exact SeqAt.EqAt.int_str i t y u _ _ _ _ h
  ·rcases z1t hv with ⟨j,u,rfl,rfl⟩ | ⟨y,u,rfl,rfl⟩
   ·rw[x8k] at h;exact SeqAt.EqAt.str_int x t j u _ _ _ _ h
   ·rw[x8j] at h;exact wpAny_eqBool_str h
 «strs»:=fun k x t v h=>by
  rcases z1t h with ⟨i,u,rfl,e⟩ | ⟨y,u,rfl,e⟩
  ·exact nomatch e
  ·injection e with e1 _
   subst e1
   cases v<;>rfl
end L2
namespace L2
open PySem PySem.Spec PyProof.Rows
inductive V where
 | non | bl (b:Bool) | int (i:Int) | str (x:Str) | byt (b:Array UInt8) | flt (b:UInt64) | ref (a:Addr) | ty (n:String)
 deriving DecidableEq
noncomputable def RelV:V->Value->Prop
 | .non,u=>u=Value.none
 | .bl b,u=>u=Value.bool b
 | .int i,u=>∃t,u=Value.int i t
 | .str x,u=>∃t,u=Value.str x t
 | .byt b,u=>∃t,u=Value.bytes b t
 | .flt b,u=>∃t,u=Value.float b t
 | .ref a,u=>u=Value.ref a
 | .ty n,u=>u=Value.type n
noncomputable abbrev Vals:List V->List Value->Prop:=Paired RelV
theorem Vals.length{xs:List V}{us:List Value}(r:Vals xs us):xs.length=us.length:=Paired.length r
theorem Vals.get:∀{xs:List V} {us:List Value} {i:Nat} {x:V},Vals xs us->xs[i]? = some x->∃u,us[i]? = some u/\RelV x u
 | _,_,_,_,.nil,e=>by simp at e
 | _,_,0,_,.cons r _,e=>by simp at e;subst e;exact⟨_,rfl,r⟩
 | _,_,i+1,x,.cons _ t,e=>by
   obtain⟨u,h1,h2⟩:=Vals.get (i:=i) (x:=x) t (by simpa using e)
   exact⟨u,by simpa using h1,h2⟩
theorem Vals.set{x:V}{u:Value}(r:RelV x u):∀{xs:List V} {us:List Value} (i:Nat),Vals xs us->Vals (xs.set i x) (us.set i u)
 | _,_,_,.nil=>.nil
 | _,_,0,.cons _ t=>.cons r t
 | _,_,i+1,.cons q t=>.cons q (Vals.set r i t)
theorem Vals.append:∀{xs ys:List V} {us ws:List Value},Vals xs us->Vals ys ws->Vals (xs++ys) (us++ws)
 | _,_,_,_,.nil,s=>s
 | _,_,_,_,.cons r t,s=>.cons r (Vals.append t s)
theorem Vals.take:∀{xs:List V} {us:List Value} (n:Nat),Vals xs us->Vals (xs.take n) (us.take n)
 | _,_,0,_=>.nil
 | _,_,_+1,.nil=>.nil
 | _,_,n+1,.cons r t=>.cons r (Vals.take n t)
theorem Vals.drop:∀{xs:List V} {us:List Value} (n:Nat),Vals xs us->Vals (xs.drop n) (us.drop n)
 | _,_,0,r=>r
 | _,_,_+1,.nil=>.nil
 | _,_,n+1,.cons _ t=>Vals.drop n t
noncomputable def RelO:Option V->Option Value->Prop
 | some v,some u=>RelV v u
 | none,none=>True
 | _,_=>False
noncomputable def KV{κ:Type}:List (κ×V)->List (κ×Value)->Prop:=Paired fun(p:κ×V) (q:κ×Value)=>p.1=q.1/\RelV p.2 q.2
noncomputable def kV:Key->V
 | .inl i=>.int i
 | .inr x=>.str x
inductive HO where
 | lst (xs:List V)
 | tup (xs:List V)
 | dK (kvs:List (Key×V)) | dT (kvs:List (List Key×V))
 | set (S:Int->Bool) (n:Nat)
 | ins (C dx:Addr) (fs:List (Str×V))
 | own (x:Addr)
 | xd (fs:List (Str×V))
 | met (f x:Addr)
 | rng (lo hi:Int)
 | frz (o:Obj) (u:HO)
 | tbl (ps:Array Value)
 | ext (φ:Heap->Prop)
noncomputable abbrev Hp:=Addr->Option HO
noncomputable def upd(H:Hp)(a:Addr)(o:HO):Hp:=fun b=>if b=a then some o else H b
theorem z0l{H:Hp}{a:Addr}{o:HO}:upd H a o a=some o:=by unfold upd;rw[if_pos rfl]
theorem z0s{H:Hp}{a b:Addr}{o:HO}(h:b≠a):upd H a o b=H b:=by unfold upd;rw[if_neg h]
theorem z0y{H:Hp}{a b:Addr}{o:HO}(h:H a=some o)(h':H b=none):a≠b:=by
 intro e;subst e;rw[h] at h';cases h'
section
variable (P:Program)(w:World)
noncomputable def z6a(h:Heap)(a:Addr)(items:Array Value):Prop:=∃o,h.get? a=some o/\o.cls = .type "tuple"/\∃n,(o.data,o.dict)=(.seq items n,none)
theorem z6a.tup{h:Heap}{a:Addr}{items:Array Value}(x:z6a h a items):IsTup h a items:=by
 obtain⟨o,e,c,n,d⟩:=x
 exact⟨o,e,c,n,(Prod.mk.inj d).1⟩
theorem z6a.new(h:Heap)(items:Array Value):z6a (h.push { cls:=.type "tuple",data:=.seq items }) h.objs.size items:=⟨_,Heap.get?_push_size h rfl,rfl,_,rfl⟩
noncomputable def z4x(H:Hp)(h:Heap)(a:Addr):HO->Prop
 | .lst xs=>xs.length<=sizeLine/\∃(its:List Value) (n:Nat),Vals xs its/\h.get? a=some { cls:=.type "list",data:=.seq its.toArray n }
 | .tup xs=>xs.length<=sizeLine/\∃its:List Value,Vals xs its/\z6a h a its.toArray
 | .dK kvs=>kvs.length<=sizeLine/\(a==sysModules)=false/\∃vs,KV kvs vs/\h.DictOf (y9v P w) a vs
 | .dT kvs=>kvs.length<=sizeLine/\(a==sysModules)=false/\∃xs:List (List Key×Addr×Value),
    Paired (fun(p:List Key×V) (q:List Key×Addr×Value)=>p.1=q.1/\H q.2.1=some (.tup (p.1.map kV))/\RelV p.2 q.2.2) kvs xs /\
    ∃o es ep,h.get? a=some o/\o.ExactDict/\o.data = .dict es ep/\es.toList=xs.map (entryOfKey (tupleKind (y9v P w)))/\(xs.map (·.1)).Nodup
 | .set S n=>h.SetOf (intKind P w) a S n
 | .ins C dx fs=>H dx=some (.own a)/\fs.length<=1000/\dx≠a/\h.get? a=some (PySem.W.instObj C dx) /\
    ∃mA,h.Ns1 dx mA/\(∀f,RelO (fs.lookup f) (mA f))/\PySem.Within mA (fs.map (·.1))
 | .own _=>∃o,h.get? a=some o
 | .xd fs=>∃mA,h.Ns1 a mA/\∀f,RelO (fs.lookup f) (mA f)
 | .rng lo hi=>∃t u v,h.get? a=some { cls:=.type "range",data:=.fields #[.int lo t,.int hi u,.int 1 v] }
 | .frz o u=>h.get? a=some o/\z4x H h a u
 | .tbl ps=>h.get? a=some { cls:=.none,data:=.fields ps }
 | .met f x=>h.get? a=some (PySem.W.methodObj (.ref f) (.ref x))
 | .ext φ=>φ h/\(∃o,h.get? a=some o)/\∀h1 h2:Heap,φ h1->(∀o,h1.get? a=some o->h2.get? a=some o)->φ h2
noncomputable def HOk(H:Hp)(h:Heap):Prop:=∀a o,H a=some o->z4x P w H h a o
end
section
variable {P:Program}{w:World}{H H':Hp}{h h':Heap}{a:Addr}{o:HO}
theorem z4x.lt(x:z4x P w H h a o):a<h.objs.size:=by
 cases o with
 | lst xs=>obtain⟨_,_,_,_,e⟩:=x;exact Heap.lt_size e
 | tup xs=>obtain⟨_,_,_,p⟩:=x;exact(z6a.tup p).lt
 | dK kvs=>obtain⟨_,_,_,_,o,_,_,e,_⟩:=x;exact Heap.lt_size e
 | dT kvs=>obtain⟨_,_,_,_,o,_,_,e,_⟩:=x;exact Heap.lt_size e
 | set S n=>obtain⟨o,_,_,_,e,_⟩:=x;exact Heap.lt_size e
 | ins C dx fs=>obtain⟨_,_,_,e,_⟩:=x;exact Heap.lt_size e
 | own y=>obtain⟨_,e⟩:=x;exact Heap.lt_size e
 | xd fs=>obtain⟨_,⟨_,_,_,e,_⟩,_⟩:=x;exact Heap.lt_size e
 | rng lo hi=>obtain⟨_,_,_,e⟩:=x;exact Heap.lt_size e
 | frz ob u=>obtain⟨e,_⟩:=x;exact Heap.lt_size e
 | tbl ps=>exact Heap.lt_size (show h.get? a=some _ from x)
 | met f y=>exact Heap.lt_size (show h.get? a=some _ from x)
 | ext φ=>obtain⟨_,⟨_,e⟩,_⟩:=x;exact Heap.lt_size e
theorem Paired.mapP{α β:Type}{F G:α->β->Prop}:∀{l₁:List α} {l₂:List β},Paired F l₁ l₂->(∀a b,F a b->G a b)->Paired G l₁ l₂
 | _,_,.nil,_=>.nil
 | _,_,.cons r t,f=>.cons (f _ _ r) (Paired.mapP t f)
theorem z4x.stay(x:z4x P w H h a o)(k:∀b u,(b=a∨H b=some (.own a))->h.get? b=some u->h'.get? b=some u)
 (ho:∀b,H b=some (.own a)->H' b=some (.own a)) (ht:∀b xs,H b=some (.tup xs)->H' b=some (.tup xs)):z4x P w H' h' a o:=by
 induction o with
 | lst xs=>obtain⟨z,its,n,r,e⟩:=x;exact⟨z,its,n,r,k _ _ (.inl rfl) e⟩
 | tup xs=>obtain⟨z,its,r,ob,e,c⟩:=x;exact⟨z,its,r,ob,k _ _ (.inl rfl) e,c⟩
 | dK kvs=>obtain⟨z,y,vs,r,ob,es,ep,e,c⟩:=x;exact⟨z,y,vs,r,ob,es,ep,k _ _ (.inl rfl) e,c⟩
 | dT kvs =>
   obtain⟨z,y,xs,r,ob,es,ep,e,c⟩:=x
   exact⟨z,y,xs,Paired.mapP r fun p q z=>⟨z.1,ht _ _ z.2.1,z.2.2⟩,ob,es,ep,k _ _ (.inl rfl) e,c⟩
 | set S n=>obtain⟨ob,es,ep,t,e,c⟩:=x;exact⟨ob,es,ep,t,k _ _ (.inl rfl) e,c⟩
 | ins C dx fs =>
   obtain⟨d,z,ne,e,mA,⟨od,es,ep,e2,c⟩,r⟩:=x
   exact⟨ho _ d,z,ne,k _ _ (.inl rfl) e,mA,⟨od,es,ep,k _ _ (.inr d) e2,c⟩,r⟩
 | own y=>obtain⟨ob,e⟩:=x;exact⟨ob,k _ _ (.inl rfl) e⟩
 | xd fs=>obtain⟨mA,⟨od,es,ep,e,c⟩,r⟩:=x;exact⟨mA,⟨od,es,ep,k _ _ (.inl rfl) e,c⟩,r⟩
 | rng lo hi=>obtain⟨t,u,v,e⟩:=x;exact⟨t,u,v,k _ _ (.inl rfl) e⟩
 | frz ob u ih=>obtain⟨e,q⟩:=x;exact⟨k _ _ (.inl rfl) e,ih q⟩
 | tbl ps =>
   have e:h.get? a=some { cls:=.none,data:=.fields ps }:=x
   show h'.get? a=some { cls:=.none,data:=.fields ps }
   exact k a _ (.inl rfl) e
 | met f y =>
   have e:h.get? a=some (PySem.W.methodObj (.ref f) (.ref y)):=x
   show h'.get? a=some (PySem.W.methodObj (.ref f) (.ref y))
   exact k a _ (.inl rfl) e
 | ext φ=>obtain⟨p,⟨o,e⟩,st⟩:=x;exact⟨st _ _ p fun o q=>k _ _ (.inl rfl) q,⟨o,k _ _ (.inl rfl) e⟩,st⟩
theorem HOk.lt(x:HOk P w H h)(e:H a=some o):a<h.objs.size:=(x a o e).lt
theorem HOk.fresh(x:HOk P w H h)(e:h.objs.size<=a):H a=none:=by
 cases q:H a with
 | none=>rfl
 | some u=>exact absurd (Nat.lt_of_lt_of_le (x.lt q) e) (Nat.lt_irrefl _)
theorem HOk.kept(x:HOk P w H h)(k:∀b u,h.get? b=some u->h'.get? b=some u):HOk P w H h':=fun a o e =>
 (x a o e).stay (fun b u _ q=>k b u q) (fun _ q=>q) fun _ _ q=>q
theorem HOk.laid(x:HOk P w H h)(k:∀b u,h.get? b=some u->h'.get? b=some u)(hp:h.objs.size<=a)(new:z4x P w (upd H a o) h' a o):HOk P w (upd H a o) h':=fun b u e=>by
 have hn:=x.fresh hp
 by_cases hb:b=a
 ·subst hb;rw[z0l] at e;cases e;exact new
 ·rw[z0s hb] at e
  exact(x b u e).stay (fun c v _ q=>k c v q) (fun c q=>by rw[z0s (z0y q hn)];exact q) fun c xs q=>by rw[z0s (z0y q hn)];exact q
end
noncomputable def Rd(H:Hp)(a:Addr)(u:HO):Prop:=H a=some u∨∃o,H a=some (.frz o u)
theorem Rd.of{H:Hp}{a:Addr}{u:HO}(h:H a=some u):Rd H a u:=.inl h
theorem Rd.ok{P:Program}{w:World}{H:Hp}{h:Heap}{a:Addr}{u:HO}(r:Rd H a u)(x:HOk P w H h):z4x P w H h a u:=by
 rcases r with r | ⟨o,r⟩
 ·exact x a u r
 ·obtain⟨_,q⟩:=x a _ r
  exact q
noncomputable def Mut:Option HO->Prop
 | some (.lst _)=>True
 | some (.dK _)=>True
 | some (.dT _)=>True
 | some (.set _ _)=>True
 | some (.ins _ _ _)=>True
 | some (.ext _)=>True
 | _=>False
section
variable {P:Program}{w:World}{H:Hp}{h h':Heap}{x e:Addr}{o':HO}
theorem HOk.write(ok:HOk P w H h)(mu:Mut (H x))(he:e=x∨H e=some (.own x))(k:∀b u,b≠e->h.get? b=some u->h'.get? b=some u)(heo:∃u,h'.get? e=some u)
 (new:z4x P w (upd H x o') h' x o'):HOk P w (upd H x o') h':=fun b u q=>by
 have nown:∀c y,H c=some (.own y)->c≠x:=fun c y r z=>by subst z;rw[r] at mu;exact mu
 have ntup:∀c xs,H c=some (.tup xs)->c≠x:=fun c xs r z=>by subst z;rw[r] at mu;exact mu
 by_cases hb:b=x
 ·subst hb;rw[z0l] at q;cases q;exact new
 ·rw[z0s hb] at q
  by_cases hbe:b=e
  ·have q':H b=some (.own x):=by
    rcases he with z | z
    ·exact absurd (hbe.trans z) hb
    ·rw[hbe];exact z
   rw[q] at q';cases q'
   obtain⟨v,hv⟩:=heo
   exact⟨v,by rw[hbe];exact hv⟩
  ·refine(ok b u q).stay (fun c v hc r=>k c v ?_ r) (fun c r=>by rw[z0s (nown c b r)];exact r) fun c xs r=>by rw[z0s (ntup c xs r)];exact r
   rcases hc with rfl | hc
   ·exact hbe
   ·rintro rfl
    rcases he with z | z
    ·exact nown c b hc z
    ·rw[hc] at z;cases z;exact hb rfl
end
structure Un (fs ex:List Addr) (H H':Hp) (h h':Heap):Prop where
 keep:∀b o,h.get? b=some o->H b=none->b ∉ fs->b ∉ ex->h'.get? b=some o
 slot:∀b o,h.get? b=some o->H b=none->b∈fs->b ∉ ex->∃sl,h'.get? b=some { o with slots:=sl }
 free:∀b o,h.get? b=some o->H b=none->b ∉ ex->H' b=none
 there:∀b o,h.get? b=some o->b ∉ ex->∃o',h'.get? b=some o'
 tups:∀b xs,H b=some (.tup xs)->H' b=some (.tup xs)
 frzs:∀b o u,H b=some (.frz o u)->H' b=some (.frz o u)
 tbls:∀b ps,H b=some (.tbl ps)->∃more,H' b=some (.tbl (ps++more))
section
variable {fs fs' ex ex':List Addr}{H H1 H2:Hp}{h h1 h2 h':Heap}{a x e:Addr}{o:HO}
theorem Un.any(u:Un fs ex H H1 h h1){b:Addr}{ob:Obj}(q:h.get? b=some ob)(n:H b=none)(hx:b ∉ ex):∃sl,h1.get? b=some { ob with slots:=sl }:=by
 by_cases hb:b∈fs
 ·exact u.slot b ob q n hb hx
 ·exact⟨ob.slots,u.keep b ob q n hb hx⟩
theorem Un.trans(a:Un fs ex H H1 h h1)(b:Un fs ex H1 H2 h1 h2):Un fs ex H H2 h h2 where
 keep:=fun c ob q n hc hx=>b.keep c ob (a.keep c ob q n hc hx) (a.free c ob q n hx) hc hx
 slot:=fun c ob q n hc hx=>by
  obtain⟨sl,e1⟩:=a.slot c ob q n hc hx
  obtain⟨sl',e2⟩:=b.slot c _ e1 (a.free c ob q n hx) hc hx
  exact⟨sl',e2⟩
 free:=fun c ob q n hx=>by
  obtain⟨o',e1⟩:=a.there c ob q hx
  exact b.free c o' e1 (a.free c ob q n hx) hx
 there:=fun c ob q hx=>by
  obtain⟨o',e1⟩:=a.there c ob q hx
  exact b.there c o' e1 hx
 tups:=fun c xs q=>b.tups c xs (a.tups c xs q)
 frzs:=fun c ob xs q=>b.frzs c ob xs (a.frzs c ob xs q)
 tbls:=fun c ps q=>by
  obtain⟨m1,e1⟩:=a.tbls c ps q
  obtain⟨m2,e2⟩:=b.tbls c _ e1
  exact⟨m1++m2,by rw[e2,Array.append_assoc]⟩
theorem Un.kept(k:∀b u,h.get? b=some u->h'.get? b=some u):Un fs ex H H h h' :=
 ⟨fun b ob q _ _ _=>k b ob q,fun b ob q _ _ _=>⟨ob.slots,k b ob q⟩,fun _ _ _ n _=>n,fun b ob q _=>⟨ob,k b ob q⟩,fun _ _ q=>q,fun _ _ _ q=>q,fun _ ps q=>⟨#[],by rw[q];simp⟩⟩
theorem Un.refl:Un fs ex H H h h:=Un.kept fun _ _ q=>q
theorem Un.laid(k:∀b u,h.get? b=some u->h'.get? b=some u)(hp:h.objs.size<=a)(hn:H a=none):Un fs ex H (upd H a o) h h' where
 keep:=fun b u q _ _ _=>k b u q
 slot:=fun b u q _ _ _=>⟨u.slots,k b u q⟩
 free:=fun b u q n _=>by rw[z0s (Nat.ne_of_lt (Nat.lt_of_lt_of_le (Heap.lt_size q) hp))];exact n
 there:=fun b u q _=>⟨u,k b u q⟩
 tups:=fun b xs q=>by rw[z0s (z0y q hn)];exact q
 frzs:=fun b u xs q=>by rw[z0s (z0y q hn)];exact q
 tbls:=fun b ps q=>⟨#[],by rw[z0s (z0y q hn),q];simp⟩
theorem Un.write(mu:Mut (H x))(he:e=x∨H e=some (.own x))(k:∀b u,b≠e->h.get? b=some u->h'.get? b=some u)(heo:∃u,h'.get? e=some u):Un fs ex H (upd H x o) h h':=by
 have hx:∀b,H b=none->b≠x:=fun b n z=>by subst z;rw[n] at mu;exact mu
 have hb:∀b,H b=none->b≠e:=fun b n z=>by
  subst z
  rcases he with r | r
  ·exact hx b n r
  ·rw[n] at r;cases r
 have hm:∀b u,H b=some u->¬Mut (some u)->b≠x:=fun b u q nm z=>by subst z;rw[q] at mu;exact nm mu
 refine⟨fun b u q n _ _=>k b u (hb b n) q,fun b u q n _ _=>⟨u.slots,k b u (hb b n) q⟩,fun b u q n _=>by rw[z0s (hx b n)];exact n,fun b u q _=>?_,
  fun b xs q=>by rw[z0s (hm b _ q fun z=>z)];exact q,fun b u xs q=>by rw[z0s (hm b _ q fun z=>z)];exact q,fun b ps q=>⟨#[],by rw[z0s (hm b _ q fun z=>z),q];simp⟩⟩
 by_cases hbe:b=e
 ·subst hbe;exact heo
 ·exact⟨u,k b u hbe q⟩
theorem Un.mono(u:Un fs ex H H1 h h1)(hs:∀b∈fs,b∈fs')(hx:∀b∈ex,b∈ex'):Un fs' ex' H H1 h h1 :=
 ⟨fun b ob q n hb he=>u.keep b ob q n (fun z=>hb (hs b z)) fun z=>he (hx b z),fun _ _ q n _ he=>u.any q n fun z=>he (hx _ z),fun b ob q n he=>u.free b ob q n fun z=>he (hx b z),fun b ob q he=>u.there b ob q fun z=>he (hx b z),u.tups,u.frzs,u.tbls⟩
end
noncomputable def trk(h:Heap)(H:Hp):List Addr:=(List.range h.objs.size).filter fun a=>(H a).isSome
noncomputable def hidT(h:Heap)(H:Hp):Heap:=PySem.W.hideAll h (trk h H)
theorem x0h(h:Heap)(H:Hp):(hidT h H).objs.size=h.objs.size:=PySem.W.hideAll_size _ _
theorem y1h{h:Heap}{H:Hp}{b:Addr}{o:Obj}(e:h.get? b=some o)(n:H b=none):(hidT h H).get? b=some o :=
 PySem.W.hideAll_get _ e fun hm=>by
  have q:(H b).isSome=true:=(List.mem_filter.mp hm).2
  rw[n] at q;simp at q
theorem y4l{h:Heap}{H:Hp}{b:Addr}{o:Obj}(e:(hidT h H).get? b=some o):h.get? b=some o/\H b=none:=by
 have e':h.get? b=some o:=PySem.W.of_hideAll (trk h H) e
 refine⟨e',?_⟩
 cases q:H b with
 | none=>rfl
 | some x =>
   have hm:b∈trk h H:=List.mem_filter.mpr ⟨List.mem_range.mpr (Heap.lt_size e'),by simp[q]⟩
   have z:(hidT h H).get? b=none:=PySem.W.hideAll_none (trk h H) hm
   rw[z] at e;cases e
noncomputable def x7d(g h:Heap)(L:Addr):List (Addr×Obj):=(List.range h.objs.size).filterMap fun a=>if a=L∨(g.get? a).isSome=true then none else (h.get? a).map fun o=>(a,o)
noncomputable def rest(g h:Heap)(L d:Addr):List (Addr×Obj):=(x7d g h L).filter fun p=>decide (p.1≠d)
end L2
namespace L2
open PySem PySem.Spec PyProof.Rows
structure Mod (K:PySem.W.Frag) (mg:Str->Option Value) (base:Heap):Prop where
 kin:K.In base
 glob:base.Ns mainGlobals mg
 blt:∃mb,base.Ns builtinsNs mb/\∀x:Str,x≠"__name__"->mb x=bootBuiltins x
 nolimit:base.NoLimit
structure Cx where
 prog:Program
 w:World
 K:PySem.W.Frag
 mg:Str->Option Value
 base:Heap
 A:Around
 N:List Str
 s₀:Shared
 H₀:Hp
 env:Env
 outer:List Env
 stack:List Env
 ex:List Addr
 fn:Str->Bool
 calm:Bool
 pn:List (Addr×Obj)
 xe:Value->Shared->Prop
noncomputable def frs(l:List Env):List Addr:=l.filterMap (·.frame)
noncomputable abbrev Cx.fs (X:Cx):List Addr:=frs X.outer
noncomputable def Vis(sc:Scope)(x:Str):Prop:=sc.names.lookup x=some .local∨sc.names.lookup x=some .cell∨sc.names.lookup x=some .free
noncomputable def Loc(sc:Scope)(x:Str):Prop:=sc.names.lookup x=some .local∨sc.names.lookup x=some .cell
noncomputable def Look(env:Env)(h:Heap)(m:Str->Option Value)(x:Str)(u:Value):Prop :=
 (env.kindOf x=some .local/\m x=some u)∨((env.kindOf x=some .cell∨env.kindOf x=some .free)/\∃c,env.cells.lookup x=some c/\h.IsCell c (some u))
structure Cx.Ok (X:Cx):Prop where
 mod:Mod X.K X.mg X.base
 kind:X.env.scope.kind = .function
 glob:X.env.globals=mainGlobals
 blt:X.env.builtins=builtinsNs
 above:X.s₀.heap.objs.size<=X.env.locals
 inj:∀x y c,X.env.cells.lookup x=some c->X.env.cells.lookup y=some c->x=y
 has:∀x,(X.env.kindOf x=some .cell∨X.env.kindOf x=some .free)->∃c,X.env.cells.lookup x=some c
 cab:∀x c,X.fn x=true->X.env.cells.lookup x=some c->X.s₀.heap.objs.size<=c
 hd:X.calm=true->X.A.handled=none
 frames:X.A.frames=some X.stack
 stk:X.stack=X.outer∨(X.stack=X.env::X.outer/\X.env.frame=some X.env.locals)
 exf:∀b∈X.ex,b≠X.env.locals/\∀x c,X.env.cells.lookup x=some c->c≠b
 bs:∀b o,X.base.get? b=some o->X.s₀.heap.get? b=some o/\X.H₀ b=none
 bsz:X.base.objs.size<=X.s₀.heap.objs.size
 noex:∀b o,X.base.get? b=some o->b ∉ X.ex
 exfs:∀b∈X.ex,b ∉ X.fs
 funs:X.s₀.heap.FunFrames X.base X.outer
 frf:∀b∈X.fs,X.H₀ b=none
structure Inv (X:Cx) (pins:List (Addr×Obj)) (σ:List (Option V)) (H:Hp) (s:Shared):Prop where
 ok:X.Ok
 os:s.os=X.s₀.os
 bare:AllBare s.gens
 base:Un X.fs X.ex X.H₀ H X.s₀.heap s.heap
 loc:∃m,s.heap.Ns X.env.locals m/\∀(i:Nat) (x:Str) (v:V),X.N[i]? = some x->σ[i]? = some (some v)->Vis X.env.scope x->∃u,RelV v u/\Look X.env s.heap m x u
 cell:∀x c,X.env.cells.lookup x=some c->∃v,s.heap.IsCell c v
 free:H X.env.locals=none
 freeC:∀x c,X.env.cells.lookup x=some c->H c=none
 pin:∀p∈X.pn++pins,s.heap.get? p.1=some p.2/\H p.1=none/\p.1≠X.env.locals/\p.1 ∉ X.fs/\∀v,p.2.data ≠ .cell v
 hok:HOk X.prog X.w H s.heap
 len:σ.length=X.N.length
section
variable {X:Cx}{pins:List (Addr×Obj)}{σ:List (Option V)}{H H':Hp}{s:Shared}{h':Heap}
theorem Cx.Ok.nofr(ok:X.Ok){b:Addr}{o:Obj}(e:X.base.get? b=some o):b ∉ X.fs:=fun hb=>by
 have:=(ok.funs.mem hb).1
 rw[e] at this;cases this
theorem Inv.bs(I:Inv X pins σ H s):∀b o,X.base.get? b=some o->s.heap.get? b=some o/\H b=none:=fun b o e =>
 ⟨I.base.keep b o (I.ok.bs b o e).1 (I.ok.bs b o e).2 (I.ok.nofr e) (I.ok.noex b o e),I.base.free b o (I.ok.bs b o e).1 (I.ok.bs b o e).2 (I.ok.noex b o e)⟩
theorem Inv.bk(I:Inv X pins σ H s):∀b o,X.base.get? b=some o->s.heap.get? b=some o:=fun b o e=>(I.bs b o e).1
theorem Inv.mod(I:Inv X pins σ H s):Mod X.K X.mg X.base:=I.ok.mod
theorem Inv.kIn(I:Inv X pins σ H s):X.K.In s.heap:=I.ok.mod.kin.keeps I.bk
theorem Inv.nolimit(I:Inv X pins σ H s):s.heap.NoLimit:=I.ok.mod.nolimit.keeps I.bk
theorem Inv.fr(I:Inv X pins σ H s):∃m,Fr X.base X.env.locals s.heap m :=
 let ⟨m,hn,_⟩:=I.loc
 ⟨m,hn,I.bk,Nat.le_trans I.ok.bsz I.ok.above⟩
theorem Inv.lt(I:Inv X pins σ H s):X.env.locals<s.heap.objs.size:=let ⟨_,hn,_⟩:=I.loc;hn.lt
theorem Inv.sz(I:Inv X pins σ H s):X.s₀.heap.objs.size<=s.heap.objs.size:=Nat.le_trans I.ok.above (Nat.le_of_lt I.lt)
theorem Inv.nofs(I:Inv X pins σ H s){a:Addr}(h:s.heap.objs.size<=a):a ∉ X.fs:=fun hb=>by
 obtain⟨_,o,ho,_⟩:=I.ok.funs.mem hb
 exact absurd (Nat.lt_of_lt_of_le (Heap.lt_size ho) (Nat.le_trans I.sz h)) (Nat.lt_irrefl _)
theorem Inv.cne(I:Inv X pins σ H s):∀x c,X.env.cells.lookup x=some c->c≠X.env.locals:=fun x c e z=>by
 obtain⟨v,o,ho,hd⟩:=I.cell x c e
 obtain⟨m,⟨o',es,ep,ho',hd',_⟩,_⟩:=I.loc
 rw[z,ho'] at ho;cases ho;rw[hd'] at hd;cases hd
theorem Inv.funs(I:Inv X pins σ H s):s.heap.FunFrames X.base X.outer:=by
 have all:∀(l:List Env),(∀b∈frs l,b∈X.fs)->X.s₀.heap.FunFrames X.base l->s.heap.FunFrames X.base l:=by
  intro l
  induction l with
  | nil=>intro _ _;trivial
  | cons env r ih =>
    intro hs hl
    obtain⟨hk,⟨L,o,hf,hn,ho,hd⟩,hr⟩:=hl
    have hL:L∈X.fs:=hs L (by unfold frs;rw[List.filterMap_cons,hf];exact List.mem_cons_self)
    obtain⟨sl,e⟩:=I.base.slot L o ho (I.ok.frf L hL) hL fun z=>I.ok.exfs L z hL
    exact⟨hk,⟨L,_,hf,hn,e,hd⟩,ih (fun b hb=>hs b (by unfold frs;rw[List.filterMap_cons,hf];exact List.mem_cons_of_mem _ hb)) hr⟩
 exact all X.outer (fun _ hb=>hb) I.ok.funs
theorem Inv.stack(I:Inv X pins σ H s):s.heap.FunFrames X.base X.stack:=by
 rcases I.ok.stk with e | ⟨e,hf⟩
 ·rw[e];exact I.funs
 ·rw[e]
  obtain⟨m,hn,_⟩:=I.loc
  refine .cons (by rw[I.ok.kind];decide) hf hn ?_ I.funs
  exact Heap.get?_none_of_le (Nat.le_trans I.ok.bsz I.ok.above)
theorem Inv.stkSub(I:Inv X pins σ H s):∀b∈frs X.stack,b∈X.env.locals::X.fs:=fun b hb=>by
 rcases I.ok.stk with e | ⟨e,hf⟩
 ·rw[e] at hb;exact List.mem_cons_of_mem _ hb
 ·rw[e] at hb
  unfold frs at hb
  rw[List.filterMap_cons,hf] at hb
  exact hb
theorem Inv.stkFree(I:Inv X pins σ H s):∀b∈frs X.stack,H b=none:=fun b hb=>by
 rcases List.mem_cons.mp (I.stkSub b hb) with e | hb
 ·rw[e];exact I.free
 ·obtain⟨_,o,ho,_⟩:=I.ok.funs.mem hb
  exact I.base.free b o ho (I.ok.frf b hb) fun z=>I.ok.exfs b z hb
theorem Inv.step{g':Array GenState}{t':Nat}{d':Drawn}{ch:List Addr}(I:Inv X pins σ H s)
 (hch:∀b∈ch,(b∈X.ex∨X.s₀.heap.get? b=none)/\b≠X.env.locals/\(∀x c,X.env.cells.lookup x=some c->c≠b)/\∀p∈X.pn++pins,p.1≠b)
 (keep:∀b o,b≠X.env.locals->b ∉ X.fs->b ∉ ch->s.heap.get? b=some o->H b=none->h'.get? b=some o)
 (slot:∀b o,b≠X.env.locals->b∈X.fs->b ∉ ch->s.heap.get? b=some o->H b=none->∃sl,h'.get? b=some { o with slots:=sl }) (free:∀b o,b ∉ ch->s.heap.get? b=some o->H b=none->H' b=none)
 (there:∀b o,b ∉ ch->s.heap.get? b=some o->∃o',h'.get? b=some o')
 (tups:∀b xs,H b=some (.tup xs)->H' b=some (.tup xs)) (frzs:∀b o u,H b=some (.frz o u)->H' b=some (.frz o u)) (tbls:∀b ps,H b=some (.tbl ps)->∃more,H' b=some (.tbl (ps++more)))
 (ns:∀m,s.heap.Ns X.env.locals m->h'.Ns X.env.locals m) (hok:HOk X.prog X.w H' h') (hg:AllBare g') :
 Inv X pins σ H' { s with heap:=h',gens:=g',drawn:=d',toks:=t' }:=by
 have neL:∀b o,X.s₀.heap.get? b=some o->b≠X.env.locals:=fun b o e=>Nat.ne_of_lt (Nat.lt_of_lt_of_le (Heap.lt_size e) I.ok.above)
 have neC:∀b o,X.s₀.heap.get? b=some o->b ∉ X.ex->b ∉ ch:=fun b o e hx hb=>by
  rcases(hch b hb).1 with z | z
  ·exact hx z
  ·rw[e] at z;cases z
 have cellK:∀x c,X.env.cells.lookup x=some c->∀v,s.heap.IsCell c v->h'.IsCell c v:=fun x c e v ⟨o,ho,hd⟩=>by
  have nch:c ∉ ch:=fun z=>(hch c z).2.2.1 x c e rfl
  by_cases hc:c∈X.fs
  ·obtain⟨sl,q⟩:=slot c o (I.cne x c e) hc nch ho (I.freeC x c e)
   exact⟨_,q,hd⟩
  ·exact⟨o,keep c o (I.cne x c e) hc nch ho (I.freeC x c e),hd⟩
 refine⟨I.ok,I.os,hg,⟨fun b o e n hb hx=>?_,fun b o e n hb hx=>?_,fun b o e n hx=>?_,fun b o e hx=>?_,fun b xs e=>tups b xs (I.base.tups b xs e),fun b o xs e=>frzs b o xs (I.base.frzs b o xs e),fun b ps e=>?_⟩,?_,fun x c e=>?_,?_,fun x c e=>?_,fun p hp=>?_,hok,I.len⟩
 ·exact keep b o (neL b o e) hb (neC b o e hx) (I.base.keep b o e n hb hx) (I.base.free b o e n hx)
 ·obtain⟨sl,e1⟩:=I.base.slot b o e n hb hx
  obtain⟨sl',e2⟩:=slot b _ (neL b o e) hb (neC b o e hx) e1 (I.base.free b o e n hx)
  exact⟨sl',e2⟩
 ·obtain⟨o',e1⟩:=I.base.there b o e hx
  exact free b o' (neC b o e hx) e1 (I.base.free b o e n hx)
 ·obtain⟨o',e1⟩:=I.base.there b o e hx
  exact there b o' (neC b o e hx) e1
 ·obtain⟨m1,e1⟩:=I.base.tbls b ps e
  obtain⟨m2,e2⟩:=tbls b _ e1
  exact⟨m1++m2,by rw[e2,Array.append_assoc]⟩
 ·obtain⟨m,hn,hl⟩:=I.loc
  refine⟨m,ns m hn,fun i x v e1 e2 e3=>?_⟩
  obtain⟨u,r,l⟩:=hl i x v e1 e2 e3
  refine⟨u,r,?_⟩
  rcases l with l | ⟨k,c,e,z⟩
  ·exact .inl l
  ·exact .inr ⟨k,c,e,cellK x c e _ z⟩
 ·obtain⟨v,z⟩:=I.cell x c e
  exact⟨v,cellK x c e v z⟩
 ·obtain⟨m,⟨o,_,_,ho,_⟩,_⟩:=I.loc
  exact free _ o (fun z=>(hch _ z).2.1 rfl) ho I.free
 ·obtain⟨v,o,ho,hd⟩:=I.cell x c e
  exact free c o (fun z=>(hch c z).2.2.1 x c e rfl) ho (I.freeC x c e)
 ·obtain⟨e,n,ne,nf,d⟩:=I.pin p hp
  have nch:p.1 ∉ ch:=fun z=>(hch p.1 z).2.2.2 p hp rfl
  exact⟨keep p.1 p.2 ne nf nch e n,free p.1 p.2 nch e n,ne,nf,d⟩
theorem Inv.un{t':Nat}(I:Inv X pins σ H s)(u:Un X.fs [] H H' s.heap h')(hok:HOk X.prog X.w H' h'):Inv X pins σ H' { s with heap:=h',toks:=t' }:=by
 obtain⟨m,⟨o,es,ep,ho,r⟩,_⟩:=id I.loc
 obtain⟨sl,hL⟩:=u.any ho I.free (by simp)
 exact I.step (g':=s.gens) (d':=s.drawn) (ch:=[]) (fun _ z=>nomatch z) (fun b o _ hb _ e n=>u.keep b o e n hb (by simp)) (fun b o _ hb _ e n=>u.slot b o e n hb (by simp)) (fun b o _ e n=>u.free b o e n (by simp)) (fun b o _ e=>u.there b o e (by simp)) u.tups u.frzs u.tbls (fun m' hm=>by
  obtain⟨o',es',ep',ho',r'⟩:=hm
  rw[ho] at ho';cases ho'
  exact⟨_,es',ep',hL,r'⟩) hok I.bare
theorem Inv.call{g':Array GenState}{t':Nat}{d':Drawn}{ch:List Addr}(I:Inv X pins σ H s)(u:Un (frs X.stack) ch H H' s.heap h')(hok:HOk X.prog X.w H' h')(hg:AllBare g')
 (hch:∀b∈ch,(b∈X.ex∨X.s₀.heap.get? b=none)/\b≠X.env.locals/\(∀x c,X.env.cells.lookup x=some c->c≠b)/\∀p∈X.pn++pins,p.1≠b) :
 Inv X pins σ H' { s with heap:=h',gens:=g',drawn:=d',toks:=t' }:=by
 obtain⟨m,⟨o,es,ep,ho,r⟩,_⟩:=id I.loc
 obtain⟨sl,hL⟩:=u.any ho I.free fun z=>(hch _ z).2.1 rfl
 exact I.step (ch:=ch) hch (fun b o hL hb hc e n=>u.keep b o e n (fun z=>(List.mem_cons.mp (I.stkSub b z)).elim hL hb) hc) (fun b o _ _ hc e n=>u.any e n hc) (fun b o hc e n=>u.free b o e n hc) (fun b o hc e=>u.there b o e hc) u.tups u.frzs u.tbls (fun m' hm=>by
  obtain⟨o',es',ep',ho',r'⟩:=hm
  rw[ho] at ho';cases ho'
  exact⟨_,es',ep',hL,r'⟩) hok hg
theorem Inv.turned{t':Nat}{it:Addr}(I:Inv X pins σ H s)(k:∀b o,b≠it->s.heap.get? b=some o->h'.get? b=some o)(hn:H it=none)(hL:it≠X.env.locals)
 (h1:it∈X.ex∨X.s₀.heap.objs.size<=it) (h2:∀x c,X.env.cells.lookup x=some c->c≠it) (h3:∀p∈X.pn++pins,p.1≠it):Inv X pins σ H { s with heap:=h',toks:=t' }:=by
 have nit:∀b u,H b=some u->b≠it:=fun b u e z=>by rw[z,hn] at e;cases e
 refine I.step (g':=s.gens) (d':=s.drawn) (ch:=[it]) (fun b hb=>?_) (fun b o _ _ hc e _=>k b o (fun z=>hc (by simp[z])) e) (fun b o _ _ hc e _=>⟨o.slots,k b o (fun z=>hc (by simp[z])) e⟩) (fun _ _ _ _ n=>n)
  (fun b o hc e=>⟨o,k b o (fun z=>hc (by simp[z])) e⟩) (fun _ _ e=>e) (fun _ _ _ e=>e) (fun b ps e=>⟨#[],by rw[e];simp⟩) (fun m hm=>?_) (fun b u e=>?_) I.bare
 ·have e:b=it:=by simpa using hb
  subst e
  exact⟨h1.imp_right fun z=>Heap.get?_none_of_le z,hL,h2,h3⟩
 ·obtain⟨o,es,ep,ho,r⟩:=hm
  exact⟨o,es,ep,k _ o (Ne.symm hL) ho,r⟩
 ·refine(I.hok b u e).stay (fun c v hc q=>k c v ?_ q) (fun _ q=>q) fun _ _ q=>q
  rcases hc with z | z
  ·rw[z];exact nit b u e
  ·exact nit c _ z
theorem Inv.tok(I:Inv X pins σ H s)(t:Nat):Inv X pins σ H { s with toks:=t }:=I.un (h':=s.heap) (t':=t) Un.refl I.hok
theorem Inv.kept{t':Nat}(I:Inv X pins σ H s)(k:∀b u,s.heap.get? b=some u->h'.get? b=some u):Inv X pins σ H { s with heap:=h',toks:=t' }:=I.un (Un.kept k) (I.hok.kept k)
theorem Inv.laid{a:Addr}{o:HO}{t':Nat}(I:Inv X pins σ H s)(k:∀b u,s.heap.get? b=some u->h'.get? b=some u)(hp:s.heap.objs.size<=a)(new:z4x X.prog X.w (upd H a o) h' a o) :
 Inv X pins σ (upd H a o) { s with heap:=h',toks:=t' }:=I.un (Un.laid k hp (I.hok.fresh hp)) (I.hok.laid k hp new)
theorem Inv.write{x e:Addr}{o:HO}{t':Nat}(I:Inv X pins σ H s)(mu:Mut (H x))(he:e=x∨H e=some (.own x))(k:∀b u,b≠e->s.heap.get? b=some u->h'.get? b=some u)(heo:∃u,h'.get? e=some u)
 (new:z4x X.prog X.w (upd H x o) h' x o):Inv X pins σ (upd H x o) { s with heap:=h',toks:=t' }:=I.un (Un.write mu he k heo) (I.hok.write mu he k heo new)
theorem Inv.pins_of{pins':List (Addr×Obj)}(I:Inv X pins σ H s)(h:∀p∈pins',s.heap.get? p.1=some p.2/\H p.1=none/\p.1≠X.env.locals/\p.1 ∉ X.fs/\∀v,p.2.data ≠ .cell v):Inv X pins' σ H s :=
 ⟨I.ok,I.os,I.bare,I.base,I.loc,I.cell,I.free,I.freeC,fun p hp=>(List.mem_append.mp hp).elim (fun z=>I.pin p (List.mem_append_left _ z)) (h p),I.hok,I.len⟩
theorem y5u{N:List Str}(hN:N.Nodup){i j:Nat}{x:Str}(a:N[i]? = some x)(b:N[j]? = some x):i=j:=by
 obtain⟨h1,e1⟩:=List.getElem?_eq_some_iff.mp a
 obtain⟨h2,e2⟩:=List.getElem?_eq_some_iff.mp b
 exact(List.getElem_inj hN).mp (e1.trans e2.symm)
theorem y1s{M:Model}{A:Around}{E:Value->Shared->Prop}{i:Nat}{x:Str}{v:V}{u:Value}{Q:Unit->Shared->Prop}(I:Inv X pins σ H s)(hN:X.N.Nodup)(hi:X.N[i]? = some x)(hx:Loc X.env.scope x)(r:RelV v u)
 (h:∀s',Inv X pins (σ.set i (some v)) H s'->(∃a,Heap.SameBut a s.heap s'.heap/\(a=X.env.locals∨X.env.cells.lookup x=some a))->Q () s') (hf:X.fn x=true∨X.env.scope.names.lookup x=some .local:=by first | exact .inl rfl | exact .inr rfl | assumption):wpAny M A (storeName X.env x u) Q E s:=by
 obtain⟨m,hn,hl⟩:=id I.loc
 have hcls:(X.env.scope.kind == .class||(X.env.scope.kind == .module&&X.env.locals != X.env.globals))=false:=by rw[I.ok.kind];rfl
 have hiσ:i<σ.length:=by rw[I.len];exact(List.getElem?_eq_some_iff.mp hi).1
 have cne:=I.cne
 have tracked:∀{a:Addr} {h':Heap},(∃o,s.heap.get? a=some o/\H a=none)->Heap.SameBut a s.heap h'->HOk X.prog X.w H h':=fun {a h'} ha hs b ob e=>by
  obtain⟨_,_,hfree⟩:=ha
  refine(I.hok b ob e).stay (fun c w' hc q=>(hs.2 c ?_).trans q) (fun _ q=>q) fun _ _ q=>q
  rintro rfl
  rcases hc with rfl | hc
  ·rw[hfree] at e;cases e
  ·rw[hfree] at hc;cases hc
 rcases hx with hk | hk
 ·refine wpAny_storeName_local hk hn (fun h' hn' hs=>?_) hcls
  obtain⟨oL,_,_,hoL,_⟩:=id hn
  refine h _ ⟨I.ok,I.os,I.bare,⟨fun b o e n hb hx=>?_,fun b o e n hb hx=>?_,I.base.free,fun b o e hx=>?_,I.base.tups,I.base.frzs,I.base.tbls⟩,⟨_,hn',fun j y v' e1 e2 e3=>?_⟩,fun y c e=>?_,I.free,I.freeC,fun p hp=>?_,tracked ⟨oL,hoL,I.free⟩ hs,by simpa using I.len⟩ ⟨_,hs,.inl rfl⟩
  ·exact(hs.2 b (Nat.ne_of_lt (Nat.lt_of_lt_of_le (Heap.lt_size e) I.ok.above))).trans (I.base.keep b o e n hb hx)
  ·obtain⟨sl,e1⟩:=I.base.slot b o e n hb hx
   exact⟨sl,(hs.2 b (Nat.ne_of_lt (Nat.lt_of_lt_of_le (Heap.lt_size e) I.ok.above))).trans e1⟩
  ·obtain⟨o',e1⟩:=I.base.there b o e hx
   exact⟨o',(hs.2 b (Nat.ne_of_lt (Nat.lt_of_lt_of_le (Heap.lt_size e) I.ok.above))).trans e1⟩
  ·by_cases hj:j=i
   ·subst hj
    rw[hi] at e1;cases e1
    rw[List.getElem?_set_self hiσ] at e2
    cases e2
    exact⟨u,r,.inl ⟨hk,by simp⟩⟩
   ·rw[List.getElem?_set_ne (Ne.symm hj)] at e2
    obtain⟨u',r',q⟩:=hl j y v' e1 e2 e3
    refine⟨u',r',?_⟩
    rcases q with ⟨k,e⟩ | ⟨k,c,e,z⟩
    ·refine .inl ⟨k,?_⟩
     have:y≠x:=fun e=>hj (y5u hN e1 (e ▸ hi))
     simp[this,e]
    ·exact .inr ⟨k,c,e,z.sameBut hs (cne y c e)⟩
  ·obtain⟨w',z⟩:=I.cell y c e
   exact⟨w',z.sameBut hs (cne y c e)⟩
  ·obtain⟨e,n,ne,nf,d⟩:=I.pin p hp
   exact⟨(hs.2 p.1 ne).trans e,n,ne,nf,d⟩
 ·have hfn:X.fn x=true:=by
   rcases hf with z | z
   ·exact z
   ·rw[z] at hk;cases hk
  obtain⟨c,hc⟩:=I.ok.has x (.inl hk)
  obtain⟨w',z⟩:=I.cell x c hc
  refine wpAny_storeName_cell I.ok.kind hk hc z (fun h' hc' hs=>?_)
  obtain⟨oc,hoc,hocd⟩:=id z
  refine h { s with heap:=h' } ⟨I.ok,I.os,I.bare,⟨fun b o e n hb hx=>?_,fun b o e n hb hx=>?_,I.base.free,fun b o e hx=>?_,I.base.tups,I.base.frzs,I.base.tbls⟩,⟨m,hn.sameBut hs (Ne.symm (cne x c hc)),fun j y v' e1 e2 e3=>?_⟩,fun y c' e=>?_,I.free,I.freeC,fun p hp=>?_,tracked ⟨oc,hoc,I.freeC x c hc⟩ hs,by simpa using I.len⟩ ⟨c,hs,.inr hc⟩
  ·exact(hs.2 b (Nat.ne_of_lt (Nat.lt_of_lt_of_le (Heap.lt_size e) (I.ok.cab x c hfn hc)))).trans (I.base.keep b o e n hb hx)
  ·obtain⟨sl,e1⟩:=I.base.slot b o e n hb hx
   exact⟨sl,(hs.2 b (Nat.ne_of_lt (Nat.lt_of_lt_of_le (Heap.lt_size e) (I.ok.cab x c hfn hc)))).trans e1⟩
  ·obtain⟨o',e1⟩:=I.base.there b o e hx
   exact⟨o',(hs.2 b (Nat.ne_of_lt (Nat.lt_of_lt_of_le (Heap.lt_size e) (I.ok.cab x c hfn hc)))).trans e1⟩
  ·by_cases hj:j=i
   ·subst hj
    rw[hi] at e1;cases e1
    rw[List.getElem?_set_self hiσ] at e2
    cases e2
    exact⟨u,r,.inr ⟨.inl hk,c,hc,hc'⟩⟩
   ·rw[List.getElem?_set_ne (Ne.symm hj)] at e2
    obtain⟨u',r',q⟩:=hl j y v' e1 e2 e3
    refine⟨u',r',?_⟩
    rcases q with q | ⟨k,c',e,z'⟩
    ·exact .inl q
    ·refine .inr ⟨k,c',e,z'.sameBut hs ?_⟩
     rintro rfl
     exact hj (y5u hN e1 (I.ok.inj _ _ _ e hc ▸ hi))
  ·by_cases hcc:c'=c
   ·subst hcc;exact⟨_,hc'⟩
   ·obtain⟨w2,z2⟩:=I.cell y c' e
    exact⟨w2,z2.sameBut hs hcc⟩
  ·obtain⟨e,n,ne,nf,d⟩:=I.pin p hp
   refine⟨(hs.2 p.1 ?_).trans e,n,ne,nf,d⟩
   intro q
   rw[q,hoc] at e
   have q':oc=p.2:=Option.some.inj e
   exact d w' (by rw[<-q'];exact hocd)
theorem z6l{M:Model}{A:Around}{E:Value->Shared->Prop}{i:Nat}{x:Str}{v:V}{u:Value}{Q:Unit->Shared->Prop}(I:Inv X pins σ H s)(hN:X.N.Nodup)(hi:X.N[i]? = some x)(hx:Loc X.env.scope x)(r:RelV v u)
 (h:∀s',Inv X pins (σ.set i (some v)) H s'->Q () s') (hf:X.fn x=true∨X.env.scope.names.lookup x=some .local:=by first | exact .inl rfl | exact .inr rfl | assumption):wpAny M A (storeName X.env x u) Q E s :=
 y1s I hN hi hx r (fun s' I' _=>h s' I') hf
theorem Inv.call'{s':Shared}{ch:List Addr}(I:Inv X pins σ H s)(ho:s'.os=s.os)(u:Un (frs X.stack) ch H H' s.heap s'.heap)(hok:HOk X.prog X.w H' s'.heap)(hg:AllBare s'.gens)
 (hch:∀b∈ch,(b∈X.ex∨X.s₀.heap.get? b=none)/\b≠X.env.locals/\(∀x c,X.env.cells.lookup x=some c->c≠b)/\∀p∈X.pn++pins,p.1≠b):Inv X pins σ H' s':=by
 obtain⟨h',g',d',t',o'⟩:=s'
 have e:o'=s.os:=ho
 subst e
 exact I.call (g':=g') (t':=t') (d':=d') u hok hg hch
end
noncomputable abbrev XK:=Value->Option Addr->Hp->Prop
noncomputable abbrev St:=List (Option V)
noncomputable abbrev VK:=V->Hp->Prop
noncomputable abbrev TE:=St->Hp->VK->Prop
noncomputable abbrev TT:=St->Hp->(Bool->Hp->Prop)->Prop
noncomputable abbrev TA:=St->Hp->(List V->Hp->Prop)->Prop
structure Ends where
 nx:St->Hp->Prop
 rt:VK
 bk:St->Hp->Prop:=fun _ _=>False
 ct:St->Hp->Prop:=fun _ _=>False
noncomputable abbrev TS:=Ends->St->Hp->Prop
noncomputable def EP(X:Cx)(pins:List (Addr×Obj))(σ:St)(Q:VK)(u:Value)(s':Shared):Prop:=∃v H',Inv X pins σ H' s'/\RelV v u/\Q v H'
noncomputable def TP(X:Cx)(pins:List (Addr×Obj))(σ:St)(Q:Bool->Hp->Prop)(b:Bool)(s':Shared):Prop:=∃H',Inv X pins σ H' s'/\Q b H'
noncomputable def AP(X:Cx)(pins:List (Addr×Obj))(σ:St)(Q:List V->Hp->Prop)(us:List Value)(s':Shared):Prop:=∃vs H',Inv X pins σ H' s'/\Vals vs us/\Q vs H'
noncomputable def SP(X:Cx)(pins:List (Addr×Obj))(D:Ends)(f:Flow)(s':Shared):Prop :=
 match f with
 | .next=>∃σ' H',Inv X pins σ' H' s'/\D.nx σ' H'
 | .brk=>∃σ' H',Inv X pins σ' H' s'/\D.bk σ' H'
 | .cont=>∃σ' H',Inv X pins σ' H' s'/\D.ct σ' H'
 | .ret u=>∃v σ' H',Inv X pins σ' H' s'/\RelV v u/\D.rt v H'
noncomputable def PE(X:Cx)(e:Expr)(t:TE):Prop :=
 ∀(pins:List (Addr×Obj)) (s:Shared) (σ:St) (H:Hp) (Q:VK),Inv X pins σ H s->t σ H Q->wpAny (model X.prog X.w) X.A (eval e X.env) (EP X pins σ Q) X.xe s
noncomputable def PT(X:Cx)(e:Expr)(t:TT):Prop :=
 ∀(pins:List (Addr×Obj)) (s:Shared) (σ:St) (H:Hp) (Q:Bool->Hp->Prop),Inv X pins σ H s->t σ H Q->wpAny (model X.prog X.w) X.A (isTrue e X.env (eval e X.env)) (TP X pins σ Q) X.xe s
noncomputable def PW(X:Cx)(e:Expr)(t:TT):Prop :=
 ∀(whole:Sem Value) (pins:List (Addr×Obj)) (s:Shared) (σ:St) (H:Hp) (Q:Bool->Hp->Prop),Inv X pins σ H s->t σ H Q->wpAny (model X.prog X.w) X.A (isTrue e X.env whole) (TP X pins σ Q) X.xe s
theorem PW.pt{X:Cx}{e:Expr}{t:TT}(h:PW X e t):PT X e t:=h _
noncomputable def PSs(X:Cx)(st:List Stmt)(t:TS):Prop :=
 ∀(pins:List (Addr×Obj)) (s:Shared) (σ:St) (H:Hp) (D:Ends),Inv X pins σ H s->t D σ H->wpAny (model X.prog X.w) X.A (execs st X.env) (SP X pins D) X.xe s
theorem thn{α:Type}{t:Sem α}{Q Q':α->Shared->Prop}{M:Model}{A:Around}{E:Value->Shared->Prop}{s:Shared}(h:wpAny M A t Q E s)(hQ:∀a s,Q a s->Q' a s):wpAny M A t Q' E s:=wpAny_mono h hQ fun _ _ x=>x
end L2
namespace L2
open PySem PySem.Spec PyProof.Rows
section
variable {X:Cx}
noncomputable def tVar(i:Nat):TE:=fun σ H Q=>∃v,σ[i]? = some (some v)/\Q v H
noncomputable def tC(v:V):TE:=fun _ H Q=>Q v H
theorem z7r{i:Nat}{x:Str}{pos:Pos}(hN:X.N[i]? = some x)(hv:Vis X.env.scope x)(hd:(x==("__debug__":Str))=false:=by decide)(hcd:(x==("__classdict__":Str))=false:=by decide):PE X (.Name x pos) (tVar i):=by
 intro pins s σ H Q I h
 obtain⟨v,e,h⟩:=h
 obtain⟨m,hn,hl⟩:=I.loc
 obtain⟨u,r,l⟩:=hl i x v hN e hv
 have fin:EP X pins σ Q u s:=⟨v,H,I,r,h⟩
 rcases l with ⟨hk,hm⟩ | ⟨hk,c,hc,hcell⟩
 ·exact wpAny_Name (wpAny_loadName_local I.ok.kind hk hn hm fin) hd
 ·rcases hk with hk | hk
  ·exact wpAny_Name (wpAny_loadName_cell I.ok.kind hk hc hcell fin) hd
  ·exact wpAny_Name (wpAny_loadName_free I.ok.kind hk hc hcell fin hcd) hd
theorem x7s{i j pos}:PE X (.Constant (.int i) j pos) (tC (.int i)):=fun _ _ _ H _ I h=>wpAny_Constant_int ⟨.int i,H,I.tok _,⟨_,rfl⟩,h⟩
theorem x9l{b j pos}:PE X (.Constant (.bool b) j pos) (tC (.bl b)):=fun _ _ _ H _ I h=>Constant_bool ⟨.bl b,H,I,rfl,h⟩
theorem x7r{x j pos}:PE X (.Constant (.str x) j pos) (tC (.str x)):=fun _ _ _ H _ I h=>Calls.Constant_str ⟨.str x,H,I.tok _,⟨_,rfl⟩,h⟩
noncomputable def Gl(X:Cx)(x:Str):Prop:=X.env.kindOf x=some .globalImplicit
theorem z6f{E:Value->Shared->Prop}{pins:List (Addr×Obj)}{s:Shared}{σ:St}{H:Hp}{x:Str}{u:Value}{pos:Pos}{Q:Value->Shared->Prop}(I:Inv X pins σ H s)(hg:Gl X x)(hm:X.mg x=some u)(h:Q u s)
 (hd:(x==("__debug__":Str))=false:=by decide):wpAny (model X.prog X.w) X.A (eval (.Name x pos) X.env) Q E s :=
 Calls.Name_function_global I.ok.kind hg (Calls.loadGlobal_global (by rw[I.ok.glob];exact I.mod.glob.keeps I.bk) hm h) hd
theorem z2t{E:Value->Shared->Prop}{pins:List (Addr×Obj)}{s:Shared}{σ:St}{H:Hp}{x:Str}{u:Value}{pos:Pos}{Q:Value->Shared->Prop}(I:Inv X pins σ H s)(hg:Gl X x)(hm:X.mg x=none)(hv:bootBuiltins x=some u)(h:Q u s)
 (hn:x≠"__name__":=by decide) (hd:(x==("__debug__":Str))=false:=by decide):wpAny (model X.prog X.w) X.A (eval (.Name x pos) X.env) Q E s:=by
 obtain⟨mb,h1,h2⟩:=I.mod.blt
 exact Calls.Name_function_global I.ok.kind hg (Calls.loadGlobal_builtin (by rw[I.ok.glob];exact I.mod.glob.keeps I.bk) hm (by rw[I.ok.blt];exact h1.keeps I.bk) ((h2 x hn).trans hv) h) hd
theorem x5p{x:Str}{v:V}{u:Value}{pos:Pos}(hg:Gl X x)(hm:X.mg x=some u)(r:RelV v u)(hd:(x==("__debug__":Str))=false:=by decide):PE X (.Name x pos) (tC v) :=
 fun _ _ _ H _ I h=>z6f I hg hm ⟨v,H,I,r,h⟩ hd
variable {a b:Expr}{ta tb:TE}{pos:Pos}
variable {tA tB':TT}{rest:List Expr}
end
end L2
namespace L2
open PySem PySem.Spec PyProof.Rows
noncomputable def SqL(K:PySem.W.Frag)(H:Hp)(a:Addr)(xs:List V):Prop :=
 Rd H a (.lst xs) ∨
  ∃(o:Obj) (its:Array Value) (n:Nat),K.lookup a=some o/\o.cls = .type "list"/\o.dict=none/\o.data = .seq its n/\its.size<=sizeLine/\Vals xs its.toList
noncomputable def SqT(K:PySem.W.Frag)(H:Hp)(a:Addr)(xs:List V):Prop :=
 Rd H a (.tup xs) ∨
  ∃(o:Obj) (its:Array Value) (n:Nat),K.lookup a=some o/\o.cls = .type "tuple"/\(o.data,o.dict)=(.seq its n,none)/\its.size<=sizeLine/\Vals xs its.toList
noncomputable def absV:Value->Option V
 | .none=>some .non
 | .bool b=>some (.bl b)
 | .int i _=>some (.int i)
 | .str x _=>some (.str x)
 | .bytes b _=>some (.byt b)
 | .float b _=>some (.flt b)
 | .ref a=>some (.ref a)
 | .type n=>some (.ty n)
 | _=>none
theorem RelV.abs{x:V}{u:Value}(r:RelV x u):absV u=some x:=by
 cases x with
 | non=>cases r;rfl
 | bl _=>cases r;rfl
 | int _=>obtain⟨t,rfl⟩:=r;rfl
 | str _=>obtain⟨t,rfl⟩:=r;rfl
 | byt _=>obtain⟨t,rfl⟩:=r;rfl
 | flt _=>obtain⟨t,rfl⟩:=r;rfl
 | ref _=>cases r;rfl
 | ty _=>cases r;rfl
theorem RelV.inj{x y:V}{u:Value}(r:RelV x u)(q:RelV y u):x=y:=Option.some.inj (r.abs.symm.trans q.abs)
theorem Vals.inj:∀{xs ys:List V} {us:List Value},Vals xs us->Vals ys us->xs=ys
 | _,_,_,.nil,.nil=>rfl
 | _,_,_,.cons r t,.cons r' t'=>by rw[r.inj r',Vals.inj t t']
section
variable {X:Cx}{pins:List (Addr×Obj)}{σ:St}{H:Hp}{s:Shared}{a:Addr}{xs ys:List V}
theorem SqL.of{K:PySem.W.Frag}(h:H a=some (.lst xs)):SqL K H a xs:=.inl (.inl h)
theorem SqT.of{K:PySem.W.Frag}(h:H a=some (.tup xs)):SqT K H a xs:=.inl (.inl h)
theorem Inv.list(I:Inv X pins σ H s)(h:SqL X.K H a xs):∃its:List Value,Vals xs its/\PlainL s.heap a its.toArray/\xs.length<=sizeLine:=by
 rcases h with h | ⟨o,its,n,hk,hc,hd,hs,hz,r⟩
 ·obtain⟨z,its,n,r,e⟩:=h.ok I.hok
  exact⟨its,r,⟨_,n,e,rfl,rfl,rfl⟩,z⟩
 ·refine⟨its.toList,r,⟨o,n,I.kIn a o hk,hc,hd,by simpa using hs⟩,?_⟩
  have e:=r.length
  simp only[Array.length_toList] at e
  lia
theorem Inv.tupleN(I:Inv X pins σ H s)(h:SqT X.K H a xs):∃its:List Value,Vals xs its/\z6a s.heap a its.toArray/\xs.length<=sizeLine:=by
 rcases h with h | ⟨o,its,n,hk,hc,hs,hz,r⟩
 ·obtain⟨z,its,r,p⟩:=h.ok I.hok
  exact⟨its,r,p,z⟩
 ·refine⟨its.toList,r,⟨o,I.kIn a o hk,hc,n,by simpa using hs⟩,?_⟩
  have e:=r.length
  simp only[Array.length_toList] at e
  lia
theorem Inv.tuple(I:Inv X pins σ H s)(h:SqT X.K H a xs):∃its:List Value,Vals xs its/\IsTup s.heap a its.toArray/\xs.length<=sizeLine:=by
 obtain⟨its,r,p,z⟩:=I.tupleN h
 exact⟨its,r,p.tup,z⟩
theorem Inv.list_inj(I:Inv X pins σ H s)(h:SqL X.K H a xs)(h':SqL X.K H a ys):xs=ys:=by
 obtain⟨its,r,⟨o,n,e,_,_,d⟩,_⟩:=I.list h
 obtain⟨its',r',⟨o',n',e',_,_,d'⟩,_⟩:=I.list h'
 rw[e] at e';cases e'
 rw[d] at d'
 injection d' with d1 _
 have:its=its':=by simpa using congrArg Array.toList d1
 subst this
 exact r.inj r'
theorem Inv.tuple_inj(I:Inv X pins σ H s)(h:SqT X.K H a xs)(h':SqT X.K H a ys):xs=ys:=by
 obtain⟨its,r,⟨o,e,_,n,d⟩,_⟩:=I.tuple h
 obtain⟨its',r',⟨o',e',_,n',d'⟩,_⟩:=I.tuple h'
 rw[e] at e';cases e'
 rw[d] at d'
 injection d' with d1 _
 have:its=its':=by simpa using congrArg Array.toList d1
 subst this
 exact r.inj r'
end
noncomputable abbrev Cx.wish (X:Cx) (E:Value->Shared->Prop):Cx:={ X with xe:=E }
noncomputable abbrev Cx.nox (X:Cx):Cx:=X.wish fun _ _=>False
theorem Cx.Ok.wish{X:Cx}(ok:X.Ok)(E:Value->Shared->Prop):(X.wish E).Ok :=
 ⟨ok.mod,ok.kind,ok.glob,ok.blt,ok.above,ok.inj,ok.has,ok.cab,ok.hd,ok.frames,ok.stk,ok.exf,ok.bs,ok.bsz,ok.noex,ok.exfs,ok.funs,ok.frf⟩
theorem Cx.Ok.unwish{X:Cx}{E:Value->Shared->Prop}(ok:(X.wish E).Ok):X.Ok :=
 ⟨ok.mod,ok.kind,ok.glob,ok.blt,ok.above,ok.inj,ok.has,ok.cab,ok.hd,ok.frames,ok.stk,ok.exf,ok.bs,ok.bsz,ok.noex,ok.exfs,ok.funs,ok.frf⟩
section
variable {X:Cx}{pins:List (Addr×Obj)}{σ:St}{H:Hp}{s:Shared}{E:Value->Shared->Prop}
theorem Inv.wish(I:Inv X pins σ H s)(E:Value->Shared->Prop):Inv (X.wish E) pins σ H s:=⟨I.ok.wish E,I.os,I.bare,I.base,I.loc,I.cell,I.free,I.freeC,I.pin,I.hok,I.len⟩
theorem Inv.unwish(I:Inv (X.wish E) pins σ H s):Inv X pins σ H s:=⟨I.ok.unwish,I.os,I.bare,I.base,I.loc,I.cell,I.free,I.freeC,I.pin,I.hok,I.len⟩
theorem SP.unwish{D:Ends}{f:Flow}{s':Shared}(h:SP (X.wish E) pins D f s'):SP X pins D f s':=by
 cases f with
 | next=>obtain⟨σ',H',I,q⟩:=h;exact⟨σ',H',I.unwish,q⟩
 | brk=>obtain⟨σ',H',I,q⟩:=h;exact⟨σ',H',I.unwish,q⟩
 | cont=>obtain⟨σ',H',I,q⟩:=h;exact⟨σ',H',I.unwish,q⟩
 | ret u=>obtain⟨v,σ',H',I,r,q⟩:=h;exact⟨v,σ',H',I.unwish,r,q⟩
theorem PE.nox{e:Expr}{t:TE}(h:PE X.nox e t):PE X e t:=fun pins s σ H Q I hw =>
 wpAny_mono (h pins s σ H Q (I.wish _) hw) (fun _ _ ⟨v,H',I',r,q⟩=>⟨v,H',I'.unwish,r,q⟩) fun _ _ z=>False.elim z
theorem PT.nox{e:Expr}{t:TT}(h:PT X.nox e t):PT X e t:=fun pins s σ H Q I hw =>
 wpAny_mono (h pins s σ H Q (I.wish _) hw) (fun _ _ ⟨H',I',q⟩=>⟨H',I'.unwish,q⟩) fun _ _ z=>False.elim z
theorem PSs.nox{st:List Stmt}{t:TS}(h:PSs X.nox st t):PSs X st t:=fun pins s σ H D I hw =>
 wpAny_mono (h pins s σ H D (I.wish _) hw) (fun _ _ q=>q.unwish) fun _ _ z=>False.elim z
end
section
variable {X:Cx}{st:Stmt}{rest:List Stmt}{t u:TS}{e:Expr}{te:TE}{pos:Pos}
theorem Inv.quiet{pins:List (Addr×Obj)}{σ:St}{H:Hp}{s:Shared}(I:Inv X pins σ H s):interactive X.env=false:=by simp[interactive,I.ok.kind]
end
noncomputable abbrev TG:=V->St->Hp->(St->Hp->Prop)->Prop
noncomputable abbrev TGs:=List V->St->Hp->(St->Hp->Prop)->Prop
noncomputable def PG(X:Cx)(target:Expr)(t:TG):Prop :=
 ∀(pins:List (Addr×Obj)) (s:Shared) (σ:St) (H:Hp) (v:V) (u:Value) (Q:St->Hp->Prop),Inv X pins σ H s->RelV v u->t v σ H Q ->
  wpAny (model X.prog X.w) X.A (assign target X.env u) (fun _ s'=>∃σ' H',Inv X pins σ' H' s'/\Q σ' H') X.xe s
section
variable {X:Cx}{pos:Pos}
noncomputable def x2w(i:Nat):TG:=fun v σ H Q=>Q (σ.set i (some v)) H
theorem y4g{i:Nat}{x:Str}(hN:X.N.Nodup)(hi:X.N[i]? = some x)(hx:Loc X.env.scope x)(hf:X.fn x=true∨X.env.scope.names.lookup x=some .local:=by first | exact .inl rfl | exact .inr rfl | assumption):PG X (.Name x pos) (x2w i):=by
 intro pins s σ H v u Q I r h
 exact wpAny_assign_Name (z6l I hN hi hx r (fun s' I'=>⟨_,H,I',h⟩) hf)
noncomputable def gNil:TGs:=fun vs σ H Q=>vs=[]/\Q σ H
noncomputable def gCons(t:TG)(u:TGs):TGs:=fun vs σ H Q=>∃v r,vs=v::r/\t v σ H fun σ' H'=>u r σ' H' Q
noncomputable def gTup(K:PySem.W.Frag)(n:Nat)(t:TGs):TG:=fun v σ H Q=>∃a xs,v = .ref a/\SqT K H a xs/\xs.length=n/\t xs σ H Q
end
section
variable {X:Cx}{pos:Pos}
end
structure It where
 go:Nat->Hp->Prop
 yld:Nat->Hp->V->Hp->Prop
 stop:Nat->Hp->Prop
noncomputable def FpOk(X:Cx)(pins:List (Addr×Obj))(H:Hp)(b:Addr):Prop :=
 H b=none/\b≠X.env.locals/\b ∉ X.fs/\(b∈X.ex∨X.s₀.heap.objs.size<=b)/\(∀x c,X.env.cells.lookup x=some c->c≠b)/\∀p∈X.pn++pins,p.1≠b
theorem Inv.fpOk{X:Cx}{pins:List (Addr×Obj)}{σ:St}{H H':Hp}{s:Shared}{b:Addr}(I:Inv X pins σ H s)(hb:s.heap.objs.size<=b)(hn:H' b=none):FpOk X pins H' b:=by
 refine⟨hn,Nat.ne_of_gt (Nat.lt_of_lt_of_le I.lt hb),I.nofs hb,.inr (Nat.le_trans I.sz hb),fun x c e z=>?_,fun p hp z=>?_⟩
 ·obtain⟨v,q⟩:=I.cell x c e
  exact absurd (Nat.lt_of_lt_of_le q.lt (by rw[z];exact hb)) (Nat.lt_irrefl _)
 ·exact absurd (Nat.lt_of_lt_of_le (Heap.lt_size (I.pin p hp).1) (by rw[z];exact hb)) (Nat.lt_irrefl _)
structure Turn (P:Program) (w:World) (K:PySem.W.Frag) (tg:Expr) (J:It) (fp:List Addr) (it:Addr) (tn:Nat->Heap->Prop):Prop where
 mem:it∈fp
 obj:∀i h,tn i h->∀b∈fp,∃o,h.get? b=some o/\∀v,o.data ≠ .cell v
 keep:∀i h h',tn i h->(∀b∈fp,∀o,h.get? b=some o->h'.get? b=some o)->tn i h'
 item:∀(X:Cx),X.prog=P->X.w=w->X.K=K->X.calm=true->∀(i:Nat) (pins:List (Addr×Obj)) (s:Shared) (σ:St) (H:Hp) (E:Value->Shared->Prop),Inv X pins σ H s->(∀b∈fp,FpOk X pins H b)->tn i s.heap->J.go i H ->
  wpAny (model P w) X.A (pyNext (.ref it)) (fun r s1=>∃u,r=some u /\
   wpAny (model P w) X.A (letOwnedTupleGo tg (.ref it) u) (fun _ s2=>∃x H',Inv X pins σ H' s2/\RelV x u/\J.yld i H x H'/\tn (i+1) s2.heap/\∀b∈fp,H' b=none) E s1) E s
 done:∀(X:Cx),X.prog=P->X.w=w->X.K=K->X.calm=true->∀(i:Nat) (pins:List (Addr×Obj)) (s:Shared) (σ:St) (H:Hp) (E:Value->Shared->Prop),Inv X pins σ H s->(∀b∈fp,FpOk X pins H b)->tn i s.heap->J.stop i H ->
  wpAny (model P w) X.A (pyNext (.ref it)) (fun r s1=>r=none/\Inv X pins σ H s1) E s
 self:∀(A:Around) (i:Nat) (s:Shared) (Q:Value->Shared->Prop) (E:Value->Shared->Prop),tn i s.heap->Q (.ref it) s->wpAny (model P w) A (pyIter (.ref it)) Q E s
noncomputable abbrev TI:=St->Hp->(It->Hp->Prop)->Prop
noncomputable def PIE(X:Cx)(pins:List (Addr×Obj))(σ:St)(tg:Expr)(R:It->Hp->Prop)(itv:Value)(s2:Shared):Prop :=
 ∃(it:Addr) (fp:List Addr) (tn:Nat->Heap->Prop) (J:It) (H':Hp),itv = .ref it/\Inv X pins σ H' s2/\Turn X.prog X.w X.K tg J fp it tn/\tn 0 s2.heap/\(∀b∈fp,FpOk X pins H' b)/\R J H'
noncomputable def PI(X:Cx)(tg iter:Expr)(wi:TI):Prop :=
 ∀(pins:List (Addr×Obj)) (s:Shared) (σ:St) (H:Hp) (R:It->Hp->Prop),Inv X pins σ H s->wi σ H R ->
  wpAny (model X.prog X.w) X.A (eval iter X.env) (fun v s1=>wpAny (model X.prog X.w) X.A (pyIter v) (PIE X pins σ tg R) X.xe s1) X.xe s
theorem x0i{M:Model}{A:Around}{E:Value->Shared->Prop}{s:Shared}{tg:Expr}{it:Addr}{u:Value}{o:Obj}{n:String}{vs:Array Value}{Q:Unit->Shared->Prop}(ho:s.heap.get? it=some o)(hc:o.cls = .type n)(hd:o.data = .fields vs)
 (hn:["enumerate","zip","dict_itemiterator","dict_reverseitemiterator","odict_iterator","itertools.zip_longest","itertools.pairwise"].contains n=false) (hQ:Q () s):wpAny M A (letOwnedTupleGo tg (.ref it) u) Q E s:=by
 unfold letOwnedTupleGo
 cases tg<;>first
  | exact wpAny_pure hQ
  | (cases u<;>first
      | exact wpAny_pure hQ
      | (refine wpAny_bind (wpAny_load ho ?_)
         rw[hc,hd]
         show wpAny M A (if (["enumerate","zip","dict_itemiterator","dict_reverseitemiterator","odict_iterator","itertools.zip_longest","itertools.pairwise"].contains n&&vs[0]? == some (rawInt _))=true then _ else _) Q E s
         rw[if_neg (by intro h;rw[hn,Bool.false_and] at h;cases h)]
         exact wpAny_pure hQ))
noncomputable def Itl(K:PySem.W.Frag)(a:Addr):It :=
 ⟨fun i H=>∃xs x,SqL K H a xs/\xs[i]? = some x,fun i H x H'=>H'=H/\∀xs,SqL K H a xs->xs[i]? = some x,fun i H=>∃xs,SqL K H a xs/\xs.length<=i⟩
noncomputable def Itt(K:PySem.W.Frag)(a:Addr):It :=
 ⟨fun i H=>∃xs x,SqT K H a xs/\xs[i]? = some x,fun i H x H'=>H'=H/\∀xs,SqT K H a xs->xs[i]? = some x,fun i H=>∃xs,SqT K H a xs/\xs.length<=i⟩
noncomputable def Itr(lo:Int)(n:Nat):It:=⟨fun i _=>i<n,fun i H x H'=>H'=H/\x = .int (lo+i),fun i _=>n<=i⟩
theorem y8d{P:Program}{w:World}{K:PySem.W.Frag}{tg:Expr}(a it:Addr):Turn P w K tg (Itl K a) [it] it (fun i h=>h.IsListIter it a i) where
 mem:=by simp
 obj:=fun i h st b hb=>by
  have e:b=it:=by simpa using hb
  subst e
  obtain⟨o,e,c,d⟩:=st
  exact⟨o,e,fun v z=>by rw[d] at z;cases z⟩
 keep:=fun i h h' st k=>st.at fun o e=>k it (by simp) o e
 item:=by
  intro X hP hw hK hc i pins s σ H E I hf st hg
  subst hP hw hK
  obtain⟨xs,x,hq,hx⟩:=hg
  obtain⟨its,rv,p,hz⟩:=I.list hq
  obtain⟨u,hu,ru⟩:=rv.get hx
  obtain⟨f0,f1,f2,f3,f4,f5⟩:=hf it (by simp)
  refine wpAny_pyNext_list_item st p.isList (x:=u) (by simpa using hu) fun h' st' sb=>?_
  have I1:Inv X pins σ H { s with heap:=h' }:=I.turned (t':=s.toks) (fun b o hb e=>(sb.2 b hb).trans e) f0 f1 f3 f4 f5
  obtain⟨o,e,c,d⟩:=id st'
  exact⟨u,rfl,x0i (s:={ s with heap:=h' }) e c d (by decide) ⟨x,H,I1,ru,⟨rfl,fun ys hy=>by rw[I.list_inj hy hq];exact hx⟩,st',fun b hb=>(hf b hb).1⟩⟩
 done:=by
  intro X hP hw hK hc i pins s σ H E I hf st hg
  subst hP hw hK
  obtain⟨xs,hq,hx⟩:=hg
  obtain⟨its,rv,p,hz⟩:=I.list hq
  obtain⟨f0,f1,f2,f3,f4,f5⟩:=hf it (by simp)
  have hl:=rv.length
  exact wpAny_pyNext_list_end (I.ok.hd hc) st p.isList (by simp;lia) fun h' eb=>⟨rfl,I.turned (t':=s.toks) (fun b o hb e=>eb b o hb e) f0 f1 f3 f4 f5⟩
 self:=fun _ _ _ _ _ st h=>wpAny_pyIter_listiter st h
theorem y6q{P:Program}{w:World}{K:PySem.W.Frag}{tg:Expr}(a it:Addr):Turn P w K tg (Itt K a) [it] it (fun i h=>h.IsTupleIter it a i) where
 mem:=by simp
 obj:=fun i h st b hb=>by
  have e:b=it:=by simpa using hb
  subst e
  obtain⟨o,e,c,d⟩:=st
  exact⟨o,e,fun v z=>by rw[d] at z;cases z⟩
 keep:=fun i h h' st k=>st.at fun o e=>k it (by simp) o e
 item:=by
  intro X hP hw hK hc i pins s σ H E I hf st hg
  subst hP hw hK
  obtain⟨xs,x,hq,hx⟩:=hg
  obtain⟨its,rv,p,hz⟩:=I.tuple hq
  obtain⟨u,hu,ru⟩:=rv.get hx
  obtain⟨f0,f1,f2,f3,f4,f5⟩:=hf it (by simp)
  refine wpAny_pyNext_tuple_item st (show s.heap.IsTuple a its.toArray from p) (x:=u) (by simpa using hu) fun h' st' sb=>?_
  have I1:Inv X pins σ H { s with heap:=h' }:=I.turned (t':=s.toks) (fun b o hb e=>(sb.2 b hb).trans e) f0 f1 f3 f4 f5
  obtain⟨o,e,c,d⟩:=id st'
  exact⟨u,rfl,x0i (s:={ s with heap:=h' }) e c d (by decide) ⟨x,H,I1,ru,⟨rfl,fun ys hy=>by rw[I.tuple_inj hy hq];exact hx⟩,st',fun b hb=>(hf b hb).1⟩⟩
 done:=by
  intro X hP hw hK hc i pins s σ H E I hf st hg
  subst hP hw hK
  obtain⟨xs,hq,hx⟩:=hg
  obtain⟨its,rv,p,hz⟩:=I.tuple hq
  obtain⟨f0,f1,f2,f3,f4,f5⟩:=hf it (by simp)
  have hl:=rv.length
  exact wpAny_pyNext_tuple_end (I.ok.hd hc) st (show s.heap.IsTuple a its.toArray from p) (by simp;lia) fun h' eb=>⟨rfl,I.turned (t':=s.toks) (fun b o hb e=>eb b o hb e) f0 f1 f3 f4 f5⟩
 self:=fun _ _ _ _ _ st h=>wpAny_pyIter_tupleiter st h
theorem y6r{P:Program}{w:World}{K:PySem.W.Frag}{tg:Expr}(it:Addr)(lo:Int)(n:Nat):Turn P w K tg (Itr lo n) [it] it (fun i h=>IsRangeIter h it (lo+(i:Nat)*1) ((n:Int)-(i:Nat)) 1) where
 mem:=by simp
 obj:=fun i h st b hb=>by
  have e:b=it:=by simpa using hb
  subst e
  exact⟨_,st,fun v z=>by
   have z':Data.fields _=Data.cell v:=z
   cases z'⟩
 keep:=fun i h h' st k=>k it (by simp) _ st
 item:=by
  intro X hP hw hK hc i pins s σ H E I hf st hg
  subst hP hw hK
  obtain⟨f0,f1,f2,f3,f4,f5⟩:=hf it (by simp)
  have W:=Walks.range (prog:=X.prog) (w:=X.w) (I.ok.hd hc) it lo 1 n
  refine W.item i s _ _ hg st fun v h' tk hv st' kk=>?_
  obtain⟨t,rfl⟩:=hv
  have I1:Inv X pins σ H { s with heap:=h',toks:=tk }:=I.turned (fun b o hb e=>kk b o (by simpa using hb) e) f0 f1 f3 f4 f5
  refine⟨_,rfl,x0i (s:={ s with heap:=h',toks:=tk }) (n:="range_iterator") st' rfl rfl (by decide) ⟨.int (lo+i),H,I1,⟨t,?_⟩,⟨rfl,rfl⟩,st',fun b hb=>(hf b hb).1⟩⟩
  rw[Int.mul_one]
 done:=by
  intro X hP hw hK hc i pins s σ H E I hf st hg
  subst hP hw hK
  obtain⟨f0,f1,f2,f3,f4,f5⟩:=hf it (by simp)
  exact wpAny_pyNext_range_end (I.ok.hd hc) st (by have:n<=i:=hg;lia) fun h' eb=>⟨rfl,I.turned (t':=s.toks) (fun b o hb e=>eb b o hb e) f0 f1 f3 f4 f5⟩
 self:=fun _ _ _ _ _ st h=>wpAny_pyIter_rangeiter st h
end L2
namespace L2
open PySem PySem.Spec PyProof.Rows
section
variable {X:Cx}{tg:Expr}
theorem y1c{pins:List (Addr×Obj)}{σ:St}{H:Hp}{s:Shared}{R:It->Hp->Prop}{E:Value->Shared->Prop}{lo hi:Int}{t u v:Tok}{tk:Nat}(I:Inv X pins σ H s)(h1:-(2^62)<=lo)(h2:lo<2^62)(h3:-(2^62)<=hi)(h4:hi<2^62)
 (q:R (Itr lo (hi-lo).toNat) H):wpAny (model X.prog X.w) X.A (pyIter (.ref s.heap.objs.size)) (PIE X pins σ tg R) E { s with heap:=s.heap.push { cls:=.type "range",data:=.fields #[.int lo t,.int hi u,.int 1 v] },toks:=tk }:=by
 refine wpAny_pyIter_range (IsRange.new ..) (small_one h1 h2 h3 h4) ?_
 have I1:Inv X pins σ H { s with heap:=s.heap.push { cls:=.type "range",data:=.fields #[.int lo t,.int hi u,.int 1 v] },toks:=tk }:=I.kept fun b o e=>Heap.get?_push_of_some _ e
 refine⟨(s.heap.push { cls:=.type "range",data:=.fields #[.int lo t,.int hi u,.int 1 v] }).objs.size,[(s.heap.push { cls:=.type "range",data:=.fields #[.int lo t,.int hi u,.int 1 v] }).objs.size],_,_,H,rfl,
  I1.kept (t':=tk) fun b o e=>Heap.get?_push_of_some _ e,y6r _ lo (hi-lo).toNat,?_,fun b hb=>?_,q⟩
 ·have e1:lo+((0:Nat):Int)*1=lo:=by simp
  have e2:(((hi-lo).toNat:Nat):Int)-((0:Nat):Int)=Builtin.Range.rangeSize lo hi 1:=by rw[rangeSize_one];split<;>lia
  show IsRangeIter _ _ (lo+((0:Nat):Int)*1) ((((hi-lo).toNat:Nat):Int)-((0:Nat):Int)) 1
  rw[e1,e2]
  exact Heap.get?_push_size _ rfl
 ·have e:b=(s.heap.push { cls:=.type "range",data:=.fields #[.int lo t,.int hi u,.int 1 v] }).objs.size:=by simpa using hb
  subst e
  exact I1.fpOk (Nat.le_refl _) (I1.hok.fresh (Nat.le_refl _))
noncomputable def y0h(fp:List Addr)(h:Heap):List (Addr×Obj):=fp.filterMap fun b=>(h.get? b).map fun o=>(b,o)
theorem z3p{fp:List Addr}{h:Heap}{b:Addr}{o:Obj}(hb:b∈fp)(e:h.get? b=some o):(b,o)∈y0h fp h:=List.mem_filterMap.mpr ⟨b,hb,by rw[e];rfl⟩
theorem y9h{fp:List Addr}{h:Heap}{p:Addr×Obj}(hp:p∈y0h fp h):p.1∈fp/\h.get? p.1=some p.2:=by
 obtain⟨b,hb,e⟩:=List.mem_filterMap.mp hp
 cases q:h.get? b with
 | none=>rw[q] at e;cases e
 | some o =>
   rw[q] at e
   have e':(b,o)=p:=Option.some.inj e
   subst e'
   exact⟨hb,q⟩
theorem Inv.pinned{pins:List (Addr×Obj)}{σ:St}{H:Hp}{s:Shared}{fp:List Addr}(I:Inv X pins σ H s)(hf:∀b∈fp,FpOk X pins H b)(ho:∀b∈fp,∃o,s.heap.get? b=some o/\∀v,o.data ≠ .cell v):Inv X (pins++y0h fp s.heap) σ H s :=
 I.pins_of fun p hp=>(List.mem_append.mp hp).elim (fun z=>I.pin p (List.mem_append_right _ z)) fun z=>by
  obtain⟨hb,e⟩:=y9h z
  obtain⟨f0,f1,f2,_⟩:=hf p.1 hb
  obtain⟨o,e',d⟩:=ho p.1 hb
  rw[e] at e';cases e'
  exact⟨e,f0,f1,f2,d⟩
theorem Inv.unpinned{pins pl:List (Addr×Obj)}{σ:St}{H:Hp}{s:Shared}(I:Inv X (pins++pl) σ H s):Inv X pins σ H s:=I.pins_of fun p hp=>I.pin p (List.mem_append_right _ (List.mem_append_left _ hp))
end
end L2
namespace L2
open PySem PySem.Spec PyProof.Rows
noncomputable abbrev R2:=V->V->Hp->VK->Prop
noncomputable def OpR(X:Cx)(f:Value->Value->Sem Value)(r:R2):Prop :=
 ∀(pins:List (Addr×Obj)) (s:Shared) (σ:St) (H:Hp) (x y:V) (v u:Value) (Q:VK),Inv X pins σ H s->RelV x v->RelV y u->r x y H Q ->
  wpAny (model X.prog X.w) X.A (f v u) (EP X pins σ Q) X.xe s
noncomputable def z5i(X:Cx)(f:Value)(r:List V->Hp->VK->Prop):Prop :=
 ∀(pins:List (Addr×Obj)) (s:Shared) (σ:St) (H:Hp) (xs:List V) (us:List Value) (Q:VK),Inv X pins σ H s->Vals xs us->r xs H Q ->
  wpAny (model X.prog X.w) X.A (call f us) (EP X pins σ Q) X.xe s
noncomputable def rI(C:Int->Int->Prop)(g:Int->Int->V):R2:=fun x y H Q=>∃i j,x = .int i/\y = .int j/\C i j/\Q (g i j) H
noncomputable def rI0(g:Int->Int->V):R2:=fun x y H Q=>∃i j,x = .int i/\y = .int j/\Q (g i j) H
section
variable {X:Cx}{a b c:Expr}{ta tb tc:TE}{pos:Pos}
theorem opI{f:Value->Value->Sem Value}{C:Int->Int->Prop}{g:Int->Int->Int}
 (rule:∀(i j:Int) (t u:Tok) (s:Shared) (Q:Value->Shared->Prop) (E:Value->Shared->Prop),C i j->Q (.int (g i j) s.toks) { s with toks:=s.toks+1 }->wpAny (model X.prog X.w) X.A (f (.int i t) (.int j u)) Q E s) :
 OpR X f (rI C fun i j=>.int (g i j)):=by
 intro pins s σ H x y v u Q I rx ry h
 obtain⟨i,j,rfl,rfl,hc,q⟩:=h
 obtain⟨t,rfl⟩:=rx
 obtain⟨t',rfl⟩:=ry
 exact rule i j t t' s _ _ hc ⟨.int (g i j),H,I.tok _,⟨_,rfl⟩,q⟩
theorem opI0{f:Value->Value->Sem Value}{g:Int->Int->Int}
 (rule:∀(i j:Int) (t u:Tok) (s:Shared) (Q:Value->Shared->Prop) (E:Value->Shared->Prop),Q (.int (g i j) s.toks) { s with toks:=s.toks+1 }->wpAny (model X.prog X.w) X.A (f (.int i t) (.int j u)) Q E s) :
 OpR X f (rI0 fun i j=>.int (g i j)):=by
 intro pins s σ H x y v u Q I rx ry h
 obtain⟨i,j,rfl,rfl,q⟩:=h
 obtain⟨t,rfl⟩:=rx
 obtain⟨t',rfl⟩:=ry
 exact rule i j t t' s _ _ ⟨.int (g i j),H,I.tok _,⟨_,rfl⟩,q⟩
theorem opB0{f:Value->Value->Sem Value}{g:Int->Int->Bool}
 (rule:∀(i j:Int) (t u:Tok) (s:Shared) (Q:Value->Shared->Prop) (E:Value->Shared->Prop),Q (.bool (g i j)) s->wpAny (model X.prog X.w) X.A (f (.int i t) (.int j u)) Q E s) :
 OpR X f (rI0 fun i j=>.bl (g i j)):=by
 intro pins s σ H x y v u Q I rx ry h
 obtain⟨i,j,rfl,rfl,q⟩:=h
 obtain⟨t,rfl⟩:=rx
 obtain⟨t',rfl⟩:=ry
 exact rule i j t t' s _ _ ⟨.bl (g i j),H,I,rfl,q⟩
noncomputable def CDiv(i j:Int):Prop:=0<j/\j<1073741824
noncomputable def CPow(i j:Int):Prop:=0<=j/\j<=1000000/\i.natAbs<2^64
noncomputable def CMul(i j:Int):Prop:=(-(2^64)<i/\i<2^64)∨(-(2^64)<j/\j<2^64)
theorem CMul.ok{i j:Int}(h:CMul i j):IntMulOk i j:=by
 rcases h with ⟨h1,h2⟩ | ⟨h1,h2⟩
 ·exact .of_left (intBits_le_64 h1 h2)
 ·exact .of_right (intBits_le_64 h1 h2)
theorem x7z:OpR X (binaryOp .Add) (rI0 fun i j=>.int (i+j)):=opI0 fun _ _ _ _ _ _ _ q=>add_int q
theorem x7u:OpR X (binaryOp .Sub) (rI0 fun i j=>.int (i-j)):=opI0 fun _ _ _ _ _ _ _ q=>sub_int q
theorem x7w:OpR X (binaryOp .Mult) (rI CMul fun i j=>.int (i*j)):=opI fun _ _ _ _ _ _ _ hc q=>mul_int q hc.ok
theorem x5s:OpR X (binaryOp .FloorDiv) (rI CDiv fun i j=>.int (i/j)):=opI fun i j _ _ _ _ _ hc q=>by
 have h1:(0:Int)<j:=hc.1
 have h2:j<1073741824:=hc.2
 exact floordiv_int (by lia) (by rw[Int.fdiv_eq_ediv_of_nonneg i (by lia)];exact q) (.inl (PyProof.noPylong_small (by lia)))
theorem x7x:OpR X (binaryOp .Mod) (rI (fun _ j=>0<j) fun i j=>.int (i%j)):=opI fun i j _ _ _ _ _ hc q=>by
 have h1:(0:Int)<j:=hc
 exact mod_int' (by lia) (by rw[Int.fmod_eq_emod_of_nonneg i (by lia)];exact q)
theorem x7v:OpR X (binaryOp .Pow) (rI CPow fun i j=>.int (i^j.toNat)):=opI fun _ _ _ _ _ _ _ hc q=>pow_int_small hc.1 hc.2.1 hc.2.2 q
end
section
variable {X:Cx}{a b c:Expr}{ta tb tc:TE}{pos:Pos}
theorem x8u{pins:List (Addr×Obj)}{σ:St}{H:Hp}{s:Shared}{Q:VK}{k k':Bool}(I:Inv X pins σ H s)(q:Q (.bl k) H)(e:k=k'):EP X pins σ Q (.bool k') s:=by
 subst e
 exact⟨.bl k,H,I,rfl,q⟩
theorem x9o:OpR X (compareOp .Lt) (rI0 fun i j=>.bl (decide (i<j))):=opB0 fun _ _ _ _ _ _ _ q=>lt_int q
theorem x9p:OpR X (compareOp .LtE) (rI0 fun i j=>.bl (decide (i<=j))):=opB0 fun _ _ _ _ _ _ _ q=>le_int q
theorem x9q:OpR X (compareOp .Gt) (rI0 fun i j=>.bl (decide (j<i))):=opB0 fun _ _ _ _ _ _ _ q=>gt_int q
theorem x9r:OpR X (compareOp .GtE) (rI0 fun i j=>.bl (decide (j<=i))):=opB0 fun _ _ _ _ _ _ _ q=>ge_int q
theorem y9g:OpR X (compareOp .In) (fun x y H Q=>∃i j,x = .str i/\y = .str j/\Q (.bl (!(Builtin.Str.occurrences j i 0 j.length 1).isEmpty)) H):=by
 intro pins s σ H x y v u Q I rx ry h
 obtain⟨i,j,rfl,rfl,q⟩:=h
 obtain⟨t,rfl⟩:=rx
 obtain⟨t',rfl⟩:=ry
 exact in_str (x8u I q rfl)
theorem OpR.or{f:Value->Value->Sem Value}{r r':R2}(h:OpR X f r)(h':OpR X f r'):OpR X f (fun x y H Q=>r x y H Q∨r' x y H Q):=by
 intro pins s σ H x y v u Q I rx ry q
 rcases q with q | q
 ·exact h pins s σ H x y v u Q I rx ry q
 ·exact h' pins s σ H x y v u Q I rx ry q
theorem z0u(b:Expr){op:CmpOp}(h:op ≠ .In:=by decide)(h2:op ≠ .NotIn:=by decide):behindInMarks op b=false:=by
 have e1:(op==CmpOp.In)=false:=by cases op<;>first | rfl | exact absurd rfl h
 have e2:(op==CmpOp.NotIn)=false:=by cases op<;>first | rfl | exact absurd rfl h2
 cases b<;>simp[behindInMarks,e1,e2]
theorem y2i:(sizeLine:Nat)<2^63:=by rw[sizeLine_eq];decide
theorem y7i:OpR X (binaryOp .Add) (fun x y H Q=>∃i j,x = .str i/\y = .str j/\i.length+j.length<=sizeLine/\Q (.str (i++j)) H):=by
 intro pins s σ H x y v u Q I rx ry h
 obtain⟨i,j,rfl,rfl,hz,q⟩:=h
 obtain⟨t,rfl⟩:=rx
 obtain⟨t',rfl⟩:=ry
 exact add_str (fun t' tk=>⟨.str (i++j),H,I.tok _,⟨_,rfl⟩,q⟩) hz
theorem y0v{x:V}{us:List Value}(r:Vals [x] us):∃u,us=[u]/\RelV x u:=by
 cases r with
 | cons r1 r2=>cases r2;exact⟨_,rfl,r1⟩
theorem x7g{x y:V}{us:List Value}(r:Vals [x,y] us):∃u w',us=[u,w']/\RelV x u/\RelV y w':=by
 cases r with
 | cons r1 r2 =>
   cases r2 with
   | cons r3 r4=>cases r4;exact⟨_,_,rfl,r1,r3⟩
theorem x1d(hc:X.calm=true):z5i X (.builtin "max") (fun xs H Q=>∃i j,xs=[.int i,.int j]/\Q (.int (if j>i then j else i)) H):=by
 intro pins s σ H xs us Q I r h
 obtain⟨i,j,rfl,q⟩:=h
 obtain⟨u,w',rfl,⟨t,rfl⟩,⟨t',rfl⟩⟩:=x7g r
 refine max_two_ints (I.ok.hd hc) fun h' tk k=>⟨_,H,I.kept k,?_,q⟩
 by_cases hj:j>i
 ·rw[if_pos hj,if_pos hj];exact⟨_,rfl⟩
 ·rw[if_neg hj,if_neg hj];exact⟨_,rfl⟩
theorem x1c(hc:X.calm=true):z5i X (.builtin "min") (fun xs H Q=>∃i j,xs=[.int i,.int j]/\Q (.int (if j<i then j else i)) H):=by
 intro pins s σ H xs us Q I r h
 obtain⟨i,j,rfl,q⟩:=h
 obtain⟨u,w',rfl,⟨t,rfl⟩,⟨t',rfl⟩⟩:=x7g r
 refine min_two_ints (I.ok.hd hc) fun h' tk k=>⟨_,H,I.kept k,?_,q⟩
 by_cases hj:j<i
 ·rw[if_pos hj,if_pos hj];exact⟨_,rfl⟩
 ·rw[if_neg hj,if_neg hj];exact⟨_,rfl⟩
theorem y3j:z5i X (.type "str") (fun xs H Q=>∃i,xs=[.int i]/\i.natAbs.log2<1920/\Q (.str (toString i)) H):=by
 intro pins s σ H xs us Q I r h
 obtain⟨i,rfl,hz,q⟩:=h
 obtain⟨u,rfl,t,rfl⟩:=y0v r
 exact PySem.P.str_of_int hz ⟨.str _,H,I.tok _,⟨_,rfl⟩,q⟩
noncomputable def LenV(K:PySem.W.Frag)(x:V)(H:Hp)(n:Nat):Prop :=
 match x with
 | .str y=>y.length<=sizeLine/\n=y.length
 | .byt y=>y.size<=sizeLine/\n=y.size
 | .ref p=>(∃xs,SqL K H p xs/\n=xs.length)∨∃xs,SqT K H p xs/\n=xs.length
 | _=>False
theorem x3h:z5i X (.builtin "len") (fun xs H Q=>∃x n,xs=[x]/\LenV X.K x H n/\Q (.int n) H):=by
 intro pins s σ H xs us Q I r h
 obtain⟨x,n,rfl,e,q⟩:=h
 obtain⟨u,rfl,rx⟩:=y0v r
 have hl:=y2i
 have hs:sizeLine=16777216:=sizeLine_eq
 cases x with
 | str y =>
   obtain⟨t,rfl⟩:=rx
   obtain⟨hy,e'⟩:y.length<=sizeLine/\n=y.length:=e
   subst e'
   exact len_str (by lia) ⟨.int _,H,I.tok _,⟨_,rfl⟩,q⟩
 | byt y =>
   obtain⟨t,rfl⟩:=rx
   obtain⟨hy,e'⟩:y.size<=sizeLine/\n=y.size:=e
   subst e'
   exact PySem.W.len_bytes (by lia) ⟨.int _,H,I.tok _,⟨_,rfl⟩,q⟩
 | ref p =>
   cases rx
   have e':(∃xs,SqL X.K H p xs/\n=xs.length)∨∃xs,SqT X.K H p xs/\n=xs.length:=e
   rcases e' with ⟨xs,hx,e'⟩ | ⟨xs,hx,e'⟩
   ·subst e'
    obtain⟨its,r',pl,hz⟩:=I.list hx
    have hlen:=r'.length
    exact Calls.call_len_list pl.isList (by simp only[List.size_toArray];lia) ⟨.int xs.length,H,I.tok _,⟨_,by simp only[List.size_toArray];rw[hlen]⟩,q⟩
   ·subst e'
    obtain⟨its,r',pl,hz⟩:=I.tuple hx
    have hlen:=r'.length
    exact len_tuple pl (by simp only[List.size_toArray];lia) ⟨.int xs.length,H,I.tok _,⟨_,by simp only[List.size_toArray];rw[hlen]⟩,q⟩
 | _=>exact(show False from e).elim
end
end L2
namespace L2
open PySem PySem.Spec PyProof.Rows
structure ObjM (h:Heap) (x dx C:Addr) (mA:Str->Option Value):Prop where
 obj:h.get? x=some (PySem.W.instObj C dx)
 ns:h.Ns1 dx mA
 ne:dx≠x
theorem y9x{h:Heap}{dx:Addr}{mA:Str->Option Value}(n:h.Ns1 dx mA):∃od,h.get? dx=some od/\∀name,PySem.W.lookIn name od=some (mA name):=by
 obtain⟨o,es,ep,ho,hd,hk,_,hm⟩:=n
 refine⟨o,ho,fun name=>?_⟩
 have e:=hm name
 unfold nsFind findBy at e
 rw[<-Array.find?_toList] at e
 unfold PySem.W.lookIn
 rw[hd]
 dsimp only
 split
 ·rename_i y q
  rw[q] at e
  exact congrArg some e
 ·rename_i q
  rw[q] at e
  have a:es.toList.any (·.refKey)=false:=by
   rw[List.any_eq_false]
   intro y hy
   obtain⟨z,t,hkey⟩:=hk y (Array.mem_toList_iff.mp hy)
   simp[DictEntry.refKey,hkey]
  have a':¬es.toList.any (·.refKey)=true:=by rw[a];exact Bool.false_ne_true
  rw[if_neg a']
  exact congrArg some e
theorem ObjM.look{h:Heap}{x dx C:Addr}{mA:Str->Option Value}(I:ObjM h x dx C mA):∃od,PySem.W.InstAt h x (PySem.W.instObj C dx) C (some od)/\∀name,PySem.W.lookIn name od=some (mA name) :=
 let ⟨od,ho,hl⟩:=y9x I.ns
 ⟨od,⟨I.obj,rfl,rfl,ho⟩,hl⟩
section
variable {prog:Program}{w:World}{A:Around}{E:Value->Shared->Prop}{s:Shared}{K:PySem.W.Frag}{x dx C f:Addr}{mA:Str->Option Value}{name:Str}{v:Value}
end
section
variable {P:Program}{w:World}{H H':Hp}{h h':Heap}{a C dx:Addr}{fs fs':List (Str×V)}
end
structure Cls (K:PySem.W.Frag) (C:Addr):Prop where
 pg:PySem.W.plainGet K C Str.empty=true
 hd:PySem.W.hasDictIn K C=true
 po:PySem.W.plainOver K C=true
 sa:PySem.W.findIn K (.ref C) "__setattr__"=some (some (.builtin "object.__setattr__"))
theorem Cls.get{K:PySem.W.Frag}{C:Addr}(c:Cls K C)(f:Str):PySem.W.plainGet K C f=true:=c.pg
structure Con (K:PySem.W.Frag) (C:Addr) (f:Str) (v:V) (u:Value):Prop where
 at_:PySem.W.findIn K (.ref C) f=some (some u)
 rel:RelV v u
 get:PySem.W.specialIn K u "__get__"=some none
 cp:PySem.W.copiedNames.contains f=false
structure Meth (K:PySem.W.Frag) (C:Addr) (m:Str) (f:Addr):Prop where
 at_:PySem.W.findIn K (.ref C) m=some (some (.ref f))
 fn:PySem.W.isFn K (.ref f)=true
 kp:PySem.W.keepIn K (.ref f)=true
section
variable {X:Cx}{pins:List (Addr×Obj)}{σ:St}{H:Hp}{s:Shared}{a C dx:Addr}{fs:List (Str×V)}{f:Str}{v:V}{A:Around}{E:Value->Shared->Prop}
theorem Inv.made(I:Inv X pins σ H s):Inv X pins σ (upd (upd H s.heap.objs.size (.own (s.heap.objs.size+1))) (s.heap.objs.size+1) (.ins C s.heap.objs.size []))
 { s with heap:=(s.heap.push PySem.W.emptyDict).push (PySem.W.instObj C s.heap.objs.size) }:=by
 have e1:(s.heap.push PySem.W.emptyDict).get? s.heap.objs.size=some PySem.W.emptyDict:=Heap.get?_push_size s.heap rfl
 have e2:((s.heap.push PySem.W.emptyDict).push (PySem.W.instObj C s.heap.objs.size)).get? (s.heap.objs.size+1)=some (PySem.W.instObj C s.heap.objs.size):=by
  have:=Heap.get?_push_size (s.heap.push PySem.W.emptyDict) (o:=PySem.W.instObj C s.heap.objs.size) rfl
  rwa [Heap.size_push] at this
 have e3:(s.heap.push PySem.W.emptyDict).Ns s.heap.objs.size (fun _=>none):=⟨PySem.W.emptyDict,#[],_,e1,rfl,(fun e he=>absurd he (by simp)),fun _=>rfl⟩
 have I1:=I.laid (a:=s.heap.objs.size) (o:=.own (s.heap.objs.size+1)) (h':=s.heap.push PySem.W.emptyDict) (t':=s.toks) (fun b u q=>Heap.get?_push_of_some _ q) (Nat.le_refl _) ⟨_,e1⟩
 refine I1.laid (a:=s.heap.objs.size+1) (o:=.ins C s.heap.objs.size []) (t':=s.toks) (fun b u q=>Heap.get?_push_of_some _ q) (Nat.le_of_eq (Heap.size_push _ _)) ?_
 have ne:s.heap.objs.size≠s.heap.objs.size+1:=Nat.ne_of_lt (Nat.lt_succ_self _)
 refine⟨by rw[z0s ne,z0l],Nat.zero_le _,ne,e2,fun _=>none,(Heap.Ns1.of_empty e3).at fun o q=>Heap.get?_push_of_some _ q,fun _=>True.intro,fun y hy=>absurd rfl hy⟩
end
section
variable {X:Cx}{o e value:Expr}{f:Str}{pos pos' tpos:Pos}{ta tv:TE}
end
section
variable {X:Cx}{pins:List (Addr×Obj)}{σ:St}{H:Hp}{s:Shared}{A:Around}{E:Value->Shared->Prop}{Q:Value->Shared->Prop}{c:Value}{b:Bool}
inductive TyOf (K:PySem.W.Frag) (H:Hp):V->Value->Prop where
 | non:TyOf K H .non (.type "NoneType")
 | bl (x:Bool):TyOf K H (.bl x) (.type "bool")
 | int (i:Int):TyOf K H (.int i) (.type "int")
 | str (x:Str):TyOf K H (.str x) (.type "str")
 | flt (x:UInt64):TyOf K H (.flt x) (.type "float")
 | lst {a:Addr} {xs:List V} (e:H a=some (.lst xs)):TyOf K H (.ref a) (.type "list")
 | frz {a:Addr} {o:Obj} {xs:List V} (e:H a=some (.frz o (.lst xs))):TyOf K H (.ref a) (.type "list")
 | tup {a:Addr} {xs:List V} (e:H a=some (.tup xs)):TyOf K H (.ref a) (.type "tuple")
 | dK {a:Addr} {kvs:List (Key×V)} (e:H a=some (.dK kvs)):TyOf K H (.ref a) (.type "dict")
 | dT {a:Addr} {kvs:List (List Key×V)} (e:H a=some (.dT kvs)):TyOf K H (.ref a) (.type "dict")
 | ins {a C dx:Addr} {fs:List (Str×V)} (e:H a=some (.ins C dx fs)) (cl:Cls K C) (ha:PySem.W.findIn K (.ref C) "__class__"=some (some (.builtin "object.__class__")))
    (hn:PySem.W.specialIn K (.builtin "object.__class__") "__get__"=some (some (.builtin "getset_descriptor.__get__"))) (htk:PySem.W.takesIn K (.builtin "object.__class__")=some true)
    (hm:PySem.W.mroIn K C (.type "object")=some true):TyOf K H (.ref a) (.ref C)
end
end L2
namespace L2
open PySem PySem.Spec PyProof.Rows
structure Room (k:Nat) (A:Around):Prop where
 hd:A.handled=none
 dp:A.depth+3*k+5<recursionLimit
 un:A.units+16*k+200<cLine
theorem Room.mono{j k:Nat}{A:Around}(r:Room k A)(h:j<=k):Room j A:=⟨r.hd,by have:=r.dp;lia,by have:=r.un;lia⟩
theorem Room.deeper{k:Nat}{A:Around}(r:Room (k+1) A)(env:Env):Room k (A.deeper env) :=
 ⟨r.hd,by have:=r.dp;show A.depth+1+3*k+5<_;lia,by have:=r.un;show A.units+3+16*k+200<_;lia⟩
theorem Room.in1{k:Nat}{A:Around}(r:Room (k+1) A):Room k A.in1 :=
 ⟨r.hd,by have:=r.dp;show A.depth+3*k+5<_;lia,by have:=r.un;show A.units+1+16*k+200<_;lia⟩
theorem Room.depth{k:Nat}{A:Around}(r:Room k A):A.depth<recursionLimit:=by have:=r.dp;lia
theorem Room.units{k:Nat}{A:Around}(r:Room k A):A.units+64<cLine:=by have:=r.un;lia
section
variable {X:Cx}{e:Expr}{es:List Expr}{te:TE}{t:TA}{pos:Pos}
end
noncomputable abbrev Sp:=List V->Hp->VK->XK->Prop
noncomputable abbrev CXT:=List Env->Hp->Shared->XK->Value->Shared->Prop
structure Env0 (P:Program) (w:World) (K:PySem.W.Frag) (mg:Str->Option Value) (base:Heap) (A:Around) (outer:List Env) (s:Shared) (H:Hp):Prop where
 frames:A.frames=some outer
 mod:Mod K mg base
 bs:∀b o,base.get? b=some o->s.heap.get? b=some o/\H b=none
 bsz:base.objs.size<=s.heap.objs.size
 funs:s.heap.FunFrames base outer
 frf:∀b∈frs outer,H b=none
 hok:HOk P w H s.heap
 bare:AllBare s.gens
noncomputable def CE(outer:List Env)(P:Program)(w:World)(H:Hp)(s:Shared)(Q:VK)(u:Value)(s':Shared):Prop :=
 ∃v H',s'.os=s.os/\AllBare s'.gens/\Un (frs outer) [] H H' s.heap s'.heap/\HOk P w H' s'.heap/\RelV v u/\Q v H'
noncomputable def CR(CX:CXT)(outer:List Env)(P:Program)(w:World)(H:Hp)(s:Shared)(Q:VK)(E:XK)(r:Result)(s':Shared):Prop :=
 match r with
 | .ok (.ret u)=>CE outer P w H s Q u s'
 | .ok _=>False
 | .error e=>CX outer H s E e s'
structure FnOk (P:Program) (w:World) (K:PySem.W.Frag) (mg:Str->Option Value) (base:Heap) (CX:CXT) (k:Nat) (f:Addr) (fd:FuncData) (ps:List Str) (sp:Sp):Prop where
 len:∀vs H Q E,sp vs H Q E->vs.length=ps.length
 run:∀(A:Around) (outer:List Env) (s:Shared) (H:Hp) (args:Args) (us:List Value) (vs:List V) (Q:VK) (E:XK),Room k A->Env0 P w K mg base A outer s H->BindsTo s fd args (ps.zip us)->Vals vs us->sp vs H Q E ->
  codeAny (model P w) A (.call (.ref f) args) (CR CX outer P w H s Q E) s
theorem FnOk.mono{P:Program}{w:World}{K:PySem.W.Frag}{mg:Str->Option Value}{base:Heap}{CX:CXT}{j k:Nat}{f:Addr}{fd:FuncData}{ps:List Str}{sp:Sp}(F:FnOk P w K mg base CX j f fd ps sp)(h:j<=k) :
 FnOk P w K mg base CX k f fd ps sp:=⟨F.len,fun A outer s H args us vs Q E hr=>F.run A outer s H args us vs Q E (hr.mono h)⟩
theorem FnOk.imp{P:Program}{w:World}{K:PySem.W.Frag}{mg:Str->Option Value}{base:Heap}{CX:CXT}{k:Nat}{f:Addr}{fd:FuncData}{ps:List Str}{sp sp':Sp}(F:FnOk P w K mg base CX k f fd ps sp)
 (h:∀vs H Q E,sp' vs H Q E->sp vs H Q E):FnOk P w K mg base CX k f fd ps sp' :=
 ⟨fun vs H Q E q=>F.len vs H Q E (h _ _ _ _ q),fun A outer s H args us vs Q E hr he hb hv hs=>F.run A outer s H args us vs Q E hr he hb hv (h _ _ _ _ hs)⟩
theorem Env0.in1{P:Program}{w:World}{K:PySem.W.Frag}{mg:Str->Option Value}{base:Heap}{A:Around}{outer:List Env}{s:Shared}{H:Hp}(e:Env0 P w K mg base A outer s H) :
 Env0 P w K mg base A.in1 outer s H:=⟨e.frames,e.mod,e.bs,e.bsz,e.funs,e.frf,e.hok,e.bare⟩
section
variable {X:Cx}{pins:List (Addr×Obj)}{σ:St}{H:Hp}{s s':Shared}
theorem Inv.env0(I:Inv X pins σ H s):Env0 X.prog X.w X.K X.mg X.base X.A X.stack s H :=
 ⟨I.ok.frames,I.ok.mod,I.bs,Nat.le_trans I.ok.bsz I.sz,I.stack,I.stkFree,I.hok,I.bare⟩
theorem Inv.after{Q:VK}{u:Value}(I:Inv X pins σ H s)(h:CE X.stack X.prog X.w H s Q u s'):EP X pins σ Q u s':=by
 obtain⟨v,H',os,bare,un,hok,r,q⟩:=h
 obtain⟨hh,g,d,t,os'⟩:=s'
 obtain rfl:os'=s.os:=os
 exact⟨v,H',I.call (h':=hh) (g':=g) (d':=d) (t':=t) (ch:=[]) un hok bare (fun b z=>absurd z (by simp)),r,q⟩
end
noncomputable def z6h(K:PySem.W.Frag)(fd:FuncData)(ps:List Str)(ds:List Value):Prop :=
 ∀(s:Shared) (us:List Value),K.In s.heap->(us++ds).length=ps.length->BindsTo s fd ⟨us,[]⟩ (ps.zip (us++ds))
theorem z6h.all{K:PySem.W.Frag}{fd:FuncData}{ps:List Str}(h:∀us:List Value,us.length=ps.length->bindArgs fd ⟨us,[]⟩=pure (ps.zip us)):z6h K fd ps []:=fun s us _ hl=>by
 rw[List.append_nil] at hl ⊢
 exact .of_eq (h us hl)
section
variable {X:Cx}{CX:CXT}{k:Nat}{f C:Addr}{fd:FuncData}{ps:List Str}{sp:Sp}{dvs:List V}{ds:List Value}{E:XK}{x m:Str}{p pos apos:Pos}{e o:Expr}{es:List Expr}{ta:TE}{t:TA}
structure Mk (K:PySem.W.Frag) (C f:Addr):Prop where
 makes:PySem.W.makesIn K C=true
 init:PySem.W.findIn K (.ref C) "__init__"=some (some (.ref f))
 fn:PySem.W.isFn K (.ref f)=true
 kp:PySem.W.keepIn K (.ref C)=true
end
noncomputable def PK(X:Cx)(kws:List Keyword)(t:TA):Prop :=
 ∀(pos:Pos) (pins:List (Addr×Obj)) (s:Shared) (σ:St) (H:Hp) (Q:List V->Hp->Prop),Inv X pins σ H s->t σ H Q->wpAny (model X.prog X.w) X.A (evalAll ((backToKw pos (keywordEach kws X.env)).map (·.2))) (AP X pins σ Q) X.xe s
section
variable {X:Cx}{CX:CXT}{k:Nat}{f C:Addr}{fd:FuncData}{ps ks:List Str}{sp:Sp}{E:XK}{x m:Str}{p pos apos kpos:Pos}{e o:Expr}{es:List Expr}{kws:List Keyword}{te ta:TE}{t tk:TA}{nm:Option Str}
structure KBinds (K:PySem.W.Frag) (fd:FuncData) (ps ks:List Str) (g:List Value->List Value->List Value) (gV:List V->List V->List V):Prop where
 to:∀(s:Shared) (us ws:List Value),K.In s.heap->(g us ws).length=ps.length->BindsTo s fd ⟨us,ks.zip ws⟩ (ps.zip (g us ws))
 rel:∀{vs:List V} {us:List Value} {zs:List V} {ws:List Value},Vals vs us->Vals zs ws->Vals (gV vs zs) (g us ws)
variable {g:List Value->List Value->List Value}{gV:List V->List V->List V}
end
structure FnScope (N P:List Str) (sc:Scope):Prop where
 kind:sc.kind = .function
 co:sc.isCoroutine=false
 gen:sc.isGenerator=false
 nd:N.Nodup
 pre:N.take P.length=P
 par:∀x∈P,sc.names.lookup x=some .local∨sc.names.lookup x=some .cell
 nofree:∀y∈sc.names,y.2 ≠ .free
theorem y3m{kindOf:Str->Option NameKind}{x:Str}:∀{binds:List (Str×Value)} {m:Str->Option Value},(∀v,(x,v) ∉ binds)->bindL kindOf binds m x=m x
 | [],_,_=>rfl
 | (n,v)::r,m,h=>by
   unfold bindL
   rw[y3m fun w hw=>h w (List.mem_cons_of_mem _ hw)]
   split
   ·have:x≠n:=by rintro rfl;exact h v List.mem_cons_self
    simp[this]
   ·rfl
theorem y3o{kindOf:Str->Option NameKind}{x:Str}:∀{binds:List (Str×Value)} {m:Str->Option Value},(∀v,(x,v) ∉ binds)->bindC kindOf binds m x=m x
 | [],_,_=>rfl
 | (n,v)::r,m,h=>by
   unfold bindC
   rw[y3o fun w hw=>h w (List.mem_cons_of_mem _ hw)]
   split
   ·rfl
   ·have:x≠n:=by rintro rfl;exact h v List.mem_cons_self
    simp[this]
theorem y3n{kindOf:Str->Option NameKind}{x:Str}{v:Value}:∀{P:List Str} {vs:List Value} {i:Nat} {m:Str->Option Value},P.Nodup->P[i]? = some x->vs[i]? = some v->kindOf x=some .local ->
 bindL kindOf (P.zip vs) m x=some v
 | [],_,_,_,_,h,_,_=>by simp at h
 | _::_,[],_,_,_,_,h,_=>by simp at h
 | p::P,w::vs,0,m,nd,h1,h2,hk=>by
   simp at h1 h2;subst h1;subst h2
   show bindL kindOf ((p,w)::P.zip vs) m p=_
   unfold bindL
   rw[y3m fun v hv=>(List.nodup_cons.mp nd).1 (List.of_mem_zip hv).1,if_pos hk]
   simp
 | p::P,w::vs,i+1,m,nd,h1,h2,hk=>by
   show bindL kindOf ((p,w)::P.zip vs) m x=_
   unfold bindL
   exact y3n (i:=i) (List.nodup_cons.mp nd).2 (by simpa using h1) (by simpa using h2) hk
theorem y3p{kindOf:Str->Option NameKind}{x:Str}{v:Value}:∀{P:List Str} {vs:List Value} {i:Nat} {m:Str->Option Value},P.Nodup->P[i]? = some x->vs[i]? = some v->kindOf x≠some .local ->
 bindC kindOf (P.zip vs) m x=some v
 | [],_,_,_,_,h,_,_=>by simp at h
 | _::_,[],_,_,_,_,h,_=>by simp at h
 | p::P,w::vs,0,m,nd,h1,h2,hk=>by
   simp at h1 h2;subst h1;subst h2
   show bindC kindOf ((p,w)::P.zip vs) m p=_
   unfold bindC
   rw[y3o fun v hv=>(List.nodup_cons.mp nd).1 (List.of_mem_zip hv).1,if_neg hk]
   simp
 | p::P,w::vs,i+1,m,nd,h1,h2,hk=>by
   show bindC kindOf ((p,w)::P.zip vs) m x=_
   unfold bindC
   exact y3p (i:=i) (List.nodup_cons.mp nd).2 (by simpa using h1) (by simpa using h2) hk
noncomputable def start(N:List Str)(vs:List V):St:=vs.map some++List.replicate (N.length-vs.length) none
noncomputable def cxOf(CX:CXT)(P:Program)(w:World)(K:PySem.W.Frag)(mg:Str->Option Value)(base:Heap)(N:List Str)(qual:Str)(scope:Scope)(f:Addr)(cd:Value)(A:Around)(outer:List Env)(s:Shared)(H:Hp)(E:XK):Cx where
 prog:=P
 w:=w
 K:=K
 mg:=mg
 base:=base
 A:=A.deeper (envOfC qual scope s.heap.objs.size f cd)
 N:=N
 s₀:=s
 H₀:=H
 env:=envOfC qual scope s.heap.objs.size f cd
 outer:=outer
 stack:=envOfC qual scope s.heap.objs.size f cd::outer
 ex:=[]
 calm:=true
 fn:=fun _=>true
 pn:=[]
 xe:=fun e s'=>wpAny (model P w) (A.deeper (envOfC qual scope s.heap.objs.size f cd)) (leaving (envOfC qual scope s.heap.objs.size f cd) e) (fun _ s''=>CX outer H s E e s'') (fun e' s''=>CX outer H s E e' s'') s'
theorem y6l{sc:Scope}{n:Nat}{x:Str}(h:sc.names.lookup x=some .cell):∃c,(cellsFrom n sc.names []).lookup x=some c:=by
 have q:=PySem.W.cellsFrom_some sc.names n [] (.inl h)
 exact Option.isSome_iff_exists.mp q
theorem x0f{CX:CXT}{P:Program}{w:World}{K:PySem.W.Frag}{mg:Str->Option Value}{base:Heap}{N ps:List Str}{qual:Str}{scope:Scope}{f:Addr}{cd:Value}{A:Around}{outer:List Env}{s s1:Shared}{H:Hp}{E:XK}{us:List Value}{vs:List V}
 (S:FnScope N ps scope) (hd:A.handled=none) (e0:Env0 P w K mg base A outer s H) (hl:vs.length=ps.length) (r:Vals vs us)
 (x:InCallC s s.heap.objs.size (bindL (envOfC qual scope s.heap.objs.size f cd).kindOf (ps.zip us) fun _=>none) (cellsFrom (s.heap.objs.size+1) scope.names []) (bindC (envOfC qual scope s.heap.objs.size f cd).kindOf (ps.zip us) fun _=>none) s1) :
 Inv (cxOf CX P w K mg base N qual scope f cd A outer s H E) [] (start N vs) H s1:=by
 have hpl:ps.length<=N.length:=by have:=congrArg List.length S.pre;rw[List.length_take] at this;lia
 obtain⟨h1,tk,rfl,hk⟩:=x.done
 have noA:∀b:Addr,b ∉ (cxOf CX P w K mg base N qual scope f cd A outer s H E).ex:=fun b z=>absurd (show b∈([]:List Addr) from z) (by simp)
 refine⟨⟨e0.mod,S.kind,rfl,rfl,Nat.le_refl _,fun y z c h1 h2=>?_,fun y hy=>?_,fun y c _ h=>?_,fun _=>hd,Around.frames_deeper e0.frames,.inr ⟨rfl,rfl⟩,fun b z=>absurd z (noA b),e0.bs,e0.bsz,fun b _ _=>noA b,fun b z=>absurd z (noA b),e0.funs,e0.frf⟩,
  rfl,e0.bare,Un.kept hk,⟨_,x.toInCall.ns,fun i y v h1 h2 h3=>?_⟩,fun y c h=>⟨_,x.cell y c h⟩,e0.hok.fresh (Nat.le_refl _),fun y c h=>?_,fun p hp=>absurd (show p∈([]:List (Addr×Obj)) from hp) (by simp),e0.hok.kept hk,?_⟩
 ·exact name_of_addr x.apart (PySem.mem_of_lookup h1) (PySem.mem_of_lookup h2)
 ·have hy:scope.names.lookup y=some .cell∨scope.names.lookup y=some .free:=hy
  rcases hy with hy | hy
  ·exact y6l hy
  ·exact absurd rfl (S.nofree _ (PySem.mem_of_lookup hy))
 ·exact Nat.le_of_lt (x.above y c (PySem.mem_of_lookup h))
 ·have hi:i<vs.length:=by
   unfold start at h2
   by_cases hi:i<vs.length
   ·exact hi
   ·rw[List.getElem?_append_right (by simpa using hi)] at h2
    rw[List.getElem?_replicate] at h2
    split at h2<;>cases h2
  have ha:vs[i]? = some v:=by
   unfold start at h2
   rw[List.getElem?_append_left (by simpa using hi),List.getElem?_map] at h2
   cases e:vs[i]? with
   | none=>rw[e] at h2;cases h2
   | some a=>rw[e] at h2;cases h2;rfl
  obtain⟨u,hu,rv⟩:=r.get ha
  have hp:ps[i]? = some y:=by
   rw[<-S.pre,List.getElem?_take_of_lt (by lia)];exact h1
  have ndP:ps.Nodup:=by rw[<-S.pre];exact S.nd.sublist (List.take_sublist _ _)
  refine⟨u,rv,?_⟩
  rcases S.par y (List.mem_of_getElem? hp) with k | k
  ·exact .inl ⟨k,y3n ndP hp hu k⟩
  ·obtain⟨c,e⟩:=y6l (n:=s.heap.objs.size+1) k
   refine .inr ⟨.inl k,c,e,?_⟩
   have q:=x.cell y c e
   rw[y3p ndP hp hu (by show scope.names.lookup y≠_;rw[k];decide)] at q
   exact q
 ·exact e0.hok.fresh (Nat.le_of_lt (x.above y c (PySem.mem_of_lookup h)))
 ·unfold start
  show _=N.length
  rw[List.length_append,List.length_map,List.length_replicate]
  lia
theorem y7u{CX:CXT}{P:Program}{w:World}{K:PySem.W.Frag}{mg:Str->Option Value}{base:Heap}{k:Nat}{f:Addr}{name qual:Str}{params:Arguments}{body:List Stmt}{scope:Scope}{dV kV doc pm cdv ct oc:Value}{an od:Option Addr}
 {osl:Array (Option Value)} {N ps:List Str} {sp:Sp} (lk:K.lookup f=some ⟨oc,od,.func (PySem.W.fnOf name qual params body scope dV kV doc pm an cdv ct),osl⟩) (hcd:PySem.W.codeIn K cdv qual=true) (S:FnScope N ps scope)
 (len:∀vs H Q E,sp vs H Q E->vs.length=ps.length)
 (hbody:∀(A:Around) (outer:List Env) (s:Shared) (H:Hp) (vs:List V) (Q:VK) (E:XK),Room k (A.deeper (envOfC qual scope s.heap.objs.size f cdv))->sp vs H Q E ->
   ∃t,PSs (cxOf CX P w K mg base N qual scope f cdv A outer s H E) body t/\t { nx:=fun _ H'=>Q .non H',rt:=Q } (start N vs) H) :
 FnOk P w K mg base CX (k+1) f (PySem.W.fnOf name qual params body scope dV kV doc pm an cdv ct) ps sp:=by
 refine⟨len,fun A outer s H args us vs Q E hr e0 hb r hsp=>?_⟩
 have hl:=len _ _ _ _ hsp
 have KX:K.In s.heap:=e0.mod.kin.keeps fun b o e=>(e0.bs b o e).1
 have lim:s.heap.NoLimit:=e0.mod.nolimit.keeps fun b o e=>(e0.bs b o e).1
 have hkind:∀y∈ps.zip us,scope.names.lookup y.1=some .local∨(scope.names.lookup y.1=some .cell/\((cellsFrom (s.heap.objs.size+1) scope.names []).lookup y.1).isSome=true):=fun⟨n,v⟩ hy=>by
  rcases S.par n (List.of_mem_zip hy).1 with q | q
  ·exact .inl q
  ·exact .inr ⟨q,PySem.W.cellsFrom_some _ _ _ (.inl q)⟩
 refine codeAny_call_function hr.depth (KX _ _ lk) rfl S.co S.gen rfl (PySem.W.codeRec_of KX hcd) (hb _ _ _ _ ?_)
 refine wpAny_newFunctionEnv_cells S.kind hkind fun env he s1 x=>?_
 subst he
 refine⟨lim.keeps x.toInCall.keep,codeAny_func ?_⟩
 obtain⟨t,ht,hq⟩:=hbody A outer s H vs Q E (hr.deeper _) hsp
 have I:Inv (cxOf CX P w K mg base N qual scope f cdv A outer s H E) [] (start N vs) H s1:=x0f S hr.hd e0 hl r x
 refine wpAny_mono (ht [] s1 (start N vs) H _ I hq) (fun fl s' hs=>?_) fun e s' hs=>hs
 have fin:∀{σ':St} {H':Hp} {v:V} {u:Value},Inv (cxOf CX P w K mg base N qual scope f cdv A outer s H E) [] σ' H' s'->RelV v u->Q v H'->CE outer P w H s Q u s' :=
  fun {σ' H' v u} J rv q=>⟨v,H',J.os,J.bare,J.base,J.hok,rv,q⟩
 cases fl with
 | ret u =>
   obtain⟨v,σ',H',J,rv,q⟩:=hs
   exact fin J rv q
 | next =>
   obtain⟨σ',H',J,q⟩:=hs
   exact fin (v:=V.non) (u:=Value.none) J rfl q
 | brk =>
   obtain⟨_,_,_,q⟩:=hs
   exact False.elim q
 | cont =>
   obtain⟨_,_,_,q⟩:=hs
   exact False.elim q
end L2
namespace L2
open PySem PySem.Spec PyProof.Rows
section
variable {X:Cx}{x:Str}{p pos:Pos}{e:Expr}{es:List Expr}{t:TA}{id T:String}{r:List V->Hp->VK->Prop}
end
end L2
namespace HT
open PySem PyProof.Rows
section
open PySem.SeqAt
open PySem.AutoSeq1 (wpAny_loadPart')
open PySem.MeetsSeq PySem.MeetsSeq2 PySem.MeetsSeq3
end
section
variable {prog:Program}{w:World}{A:Around}{E:Value->Shared->Prop}{s:Shared}
theorem cat_tup{t b:Addr}{vs ws:List Value}{Q:Value->Shared->Prop}(ht:IsTup s.heap t vs.toArray)(hb:IsTup s.heap b ws.toArray)(hv:vs≠[])
 (h1:ws=[]->Q (.ref t) s) (h2:ws≠[]->Q (.ref s.heap.objs.size) { s with heap:=s.heap.push { cls:=.type "tuple",data:=.seq (vs++ws).toArray } })
 (hsz:vs.length+ws.length<=sizeLine):wpAny (model prog w) A (binaryOp .Add (.ref t) (.ref b)) Q E s:=by
 obtain⟨⟨cls,dd,data,sl⟩,ho,hc,n,hd⟩:=id ht
 obtain⟨⟨cls2,dd2,data2,sl2⟩,ho2,hc2,n2,hd2⟩:=id hb
 simp only at hc hd hc2 hd2
 subst hc hd hc2 hd2
 have e:vs.toArray++ws.toArray=(vs++ws).toArray:=by simp
 by_cases hw:ws=[]
 ·exact concat_meets ⟨_,ho,rfl⟩ ⟨_,ho2,rfl⟩ noFill_tuple_add seq_tuple_add PySem.F.slot_tuple_add PySem.F.entry_tuple_add (PySem.F.args_tuple_add_2 _ _)
   (tuple_addW1 t b vs.toArray ws.toArray n n2 dd dd2 sl sl2 (by simpa using hv) (by simp[hw])) ⟨ho,ho2,h1 hw⟩
 ·refine concat_meets ⟨_,ho,rfl⟩ ⟨_,ho2,rfl⟩ noFill_tuple_add seq_tuple_add PySem.F.slot_tuple_add PySem.F.entry_tuple_add (PySem.F.args_tuple_add_2 _ _)
   (tuple_addW2 t b vs.toArray ws.toArray n n2 dd dd2 sl sl2 (by simpa using hv) (by simpa using hw) (by rw[List.size_toArray,List.size_toArray];exact hsz)) ⟨ho,ho2,?_⟩
  rw[e]
  exact h2 hw
noncomputable def sIx(n d:Nat):Option Int->Nat
 | none=>d
 | some v=>if v<0 then (v+(n:Int)).toNat else min v.toNat n
theorem sIx_none(n d:Nat):sIx n d none=d:=rfl
theorem sIx_nat(n d k:Nat):sIx n d (some (k:Int))=min k n:=by
 show(if (k:Int)<0 then ((k:Int)+(n:Int)).toNat else min (k:Int).toNat n)=min k n
 rw[if_neg (by lia),Int.toNat_natCast]
theorem x7j(n d:Nat)(hd:d<=n)(o:Option Int):sIx n d o<=n:=by
 cases o with
 | none=>exact hd
 | some v =>
   show(if v<0 then (v+(n:Int)).toNat else min v.toNat n)<=n
   by_cases hv:v<0
   ·rw[if_pos hv];lia
   ·rw[if_neg hv];exact Nat.min_le_right _ _
theorem x0z(v:Int)(n d:Nat):(if v<0 then max (v+(n:Int)) 0 else min v (n:Int))=((sIx n d (some v):Nat):Int):=by
 show(if v<0 then max (v+(n:Int)) 0 else min v (n:Int))=(((if v<0 then (v+(n:Int)).toNat else min v.toNat n):Nat):Int)
 by_cases hv:v<0
 ·simp only[if_pos hv];lia
 ·simp only[if_neg hv];lia
theorem y8a(lo hi:Option Int)(n:Nat):Builtin.Slice.sliceAdjust lo hi 1 (n:Int)=(((sIx n 0 lo:Nat):Int),((sIx n n hi:Nat):Int)):=by
 have h1:¬((1:Int)<0):=by lia
 unfold Builtin.Slice.sliceAdjust
 simp only[h1,if_false]
 refine Prod.ext ?_ ?_
 ·cases lo with
  | none=>rfl
  | some v=>exact x0z v n 0
 ·cases hi with
  | none=>rfl
  | some v=>exact x0z v n n
theorem y7d(i j:Nat):Builtin.Slice.slicePlaces (i:Int) (j:Int) 1=j-i:=by
 unfold Builtin.Slice.slicePlaces
 have h1:(1:Int)>0:=by lia
 simp only[h1,if_true,Int.ediv_one]
 split<;>lia
theorem y0f{v:Value}{o:Option Int}{Q:Option Int->Shared->Prop}(p:IsPart v o)(h:Q o s):wpAny (model prog w) A (Builtin.Slice.slicePartIndex v) Q E s:=by
 cases p with
 | none=>exact slicePart_none h
 | int i t=>exact slicePart_int h
theorem z4s{sl:Addr}{vl vu:Value}{lo hi:Option Int}{n:Nat}{Q:Int×Int×Nat->Shared->Prop}(hs:s.heap.IsSliceOf sl vl vu .none)(pl:IsPart vl lo)(pu:IsPart vu hi)
 (h:Q (((sIx n 0 lo:Nat):Int),1,sIx n n hi-sIx n 0 lo) s):wpAny (model prog w) A (Builtin.Slice.sliceApplied (.ref sl) (pure (n:Int))) Q E s:=by
 obtain⟨os,hos,hcs,hds⟩:=id hs
 unfold Builtin.Slice.sliceApplied Builtin.Slice.sliceFields
 refine wpAny_bind (wpAny_bind (wpAny_field hos hds (x:=vl) rfl (wpAny_bind (wpAny_field hos hds (x:=vu) rfl (wpAny_bind (wpAny_field hos hds (x:=.none) rfl (wpAny_pure ?_)))))))
 refine wpAny_bind (slicePart_none ?_)
 show wpAny _ _ (if ((1:Int)==0)=true then _ else _) _ _ s
 rw[if_neg (by decide)]
 refine wpAny_bind (y0f pl (wpAny_bind (y0f pu (wpAny_bind (wpAny_pure ?_)))))
 show wpAny _ _ (match Builtin.Slice.sliceAdjust lo hi 1 (n:Int) with | (lo,hi)=>pure (lo,(1:Int),Builtin.Slice.slicePlaces lo hi 1)) _ _ s
 rw[y8a lo hi n]
 show wpAny _ _ (pure (((sIx n 0 lo:Nat):Int),(1:Int),Builtin.Slice.slicePlaces ((sIx n 0 lo:Nat):Int) ((sIx n n hi:Nat):Int) 1)) _ _ s
 rw[y7d]
 exact wpAny_pure h
theorem x2b(xs:Array Value)(i k:Nat):((List.range k).filterMap fun(m:Nat)=>xs[((i:Int)+(m:Int)*1).toNat]?).toArray=((xs.toList.drop i).take k).toArray:=by
 have e:(fun(m:Nat)=>xs[((i:Int)+(m:Int)*1).toNat]?)=fun m=>xs[i+m]?:=by
  funext m
  have:((i:Int)+(m:Int)*1).toNat=i+m:=by lia
  rw[this]
 rw[e]
 have:=pick_run xs i k
 rw[List.filterMap_map] at this
 have e2:((fun x=>xs[x]?) ∘ fun x=>i+x)=fun m=>xs[i+m]?:=rfl
 rw[e2] at this
 rw[this]
theorem getItem_tuple_cut{t sl:Addr}{items:Array Value}{vl vu:Value}{lo hi:Option Int}{Q:Value->Shared->Prop}(ht:IsTup s.heap t items)(hs:s.heap.IsSliceOf sl vl vu .none)(pl:IsPart vl lo)(pu:IsPart vu hi)
 (hw:¬(sIx items.size 0 lo=0/\sIx items.size items.size hi=items.size))
 (h:Q (.ref s.heap.objs.size) { s with heap:=s.heap.push { cls:=.type "tuple",data:=.seq ((items.toList.drop (sIx items.size 0 lo)).take (sIx items.size items.size hi-sIx items.size 0 lo)).toArray } })
 (hsz:items.size<=sizeLine):wpAny (model prog w) A (getItem (.ref t) (.ref sl)) Q E s:=by
 have htake:sizeOk (.seq ((items.toList.drop (sIx items.size 0 lo)).take (sIx items.size items.size hi-sIx items.size 0 lo)).toArray):=by
  show((items.toList.drop (sIx items.size 0 lo)).take (sIx items.size items.size hi-sIx items.size 0 lo)).toArray.size<=sizeLine
  rw[List.size_toArray,List.length_take,List.length_drop,Array.length_toList]
  lia
 have hj:sIx items.size items.size hi<=items.size:=x7j _ _ (Nat.le_refl _) hi
 obtain⟨os,hos,hcs,hds⟩:=id hs
 have hTs:s.TypeIs (.ref sl) "slice":=⟨os,hos,hcs⟩
 unfold getItem
 try with_reducible refine wpAny_holding ?_
 first | refine wpAny_bind (wpAny_pure ?_) | skip
 refine wpAny_bind (wpAny_sequenceKey ht.typeIs (by decide) ?_)
 refine wpAny_bind (wpAny_callSpecial?_slot (name:=Str.ofString "__getitem__") ht.typeIs PyProof.Rows.slot_tuple_getitem
  (wpAny_call_entry PyProof.Rows.slot_tuple_getitem ht.typeIs entry_tuple_getitem ?_ (args_tuple_getitem _ _)))
 show wpAny _ _ (Builtin.Tuple.tupleItemsOf (.ref t)>>=_) _ _ s
 refine wpAny_bind (tupleItemsOf_ ht ?_)
 refine wpAny_bind (wpAny_typeOf hTs ?_)
 rw[if_pos (by decide)]
 refine wpAny_bind (z4s hs pl pu ?_)
 have hno:¬((((sIx items.size 0 lo:Nat):Int)==0&&(1:Int)==1&&(sIx items.size items.size hi-sIx items.size 0 lo)==items.size)=true):=by
  intro q
  rw[Bool.and_eq_true,Bool.and_eq_true] at q
  have q1:((sIx items.size 0 lo:Nat):Int)=0:=eq_of_beq q.1.1
  have q2:sIx items.size items.size hi-sIx items.size 0 lo=items.size:=eq_of_beq q.2
  exact hw ⟨by lia,by lia⟩
 show wpAny _ _ (if (((sIx items.size 0 lo:Nat):Int)==0&&(1:Int)==1&&(sIx items.size items.size hi-sIx items.size 0 lo)==items.size)=true then _ else _) _ _ s
 rw[if_neg hno,x2b]
 first
  | exact wpAny_bind (m:=Builtin.Tuple.tupleExact _) (wpAny_newObj_type (wpAny_pure ⟨_,rfl,wpAny_pure h⟩) htake)
  | exact wpAny_bind (m:=Builtin.Tuple.tupleExact _) (wpAny_newObj_type (wpAny_bind (wpAny_pure (wpAny_pure ⟨_,rfl,wpAny_pure h⟩))) htake)
  | exact wpAny_bind (wpAny_bind (m:=Builtin.Tuple.tupleExact _) (wpAny_newObj_type (wpAny_pure (wpAny_pure ⟨_,rfl,wpAny_pure h⟩)) htake))
  | exact wpAny_bind (wpAny_bind (m:=Builtin.Tuple.tupleExact _) (wpAny_newObj_type (wpAny_pure ⟨_,rfl,wpAny_pure h⟩) htake))
end
end HT
namespace L2
open PySem PySem.Spec PyProof.Rows
noncomputable abbrev TO:=St->Hp->(Option Int->Hp->Prop)->Prop
theorem y7n{ns:List Int}:∀{us:List Value},Vals (ns.map V.int) us->IntsAre us ns:=by
 induction ns with
 | nil=>intro us r;rw[List.map_nil] at r;cases r;exact .nil
 | cons n ns ih =>
   intro us r
   rw[List.map_cons] at r
   cases r with
   | cons r1 r2 =>
     obtain⟨t,e⟩:=r1
     subst e
     exact .cons n t (ih r2)
section
variable {X:Cx}{e:Expr}{te:TE}{lo hi:Option Expr}{tl th:TO}{pos p2:Pos}
noncomputable def SlR(X:Cx)(r:V->Option Int->Option Int->Hp->VK->Prop):Prop :=
 ∀(pins:List (Addr×Obj)) (s:Shared) (σ:St) (H:Hp) (x:V) (v vl vu:Value) (lo hi:Option Int) (sl:Addr) (Q:VK),Inv X pins σ H s->RelV x v->s.heap.IsSliceOf sl vl vu .none->IsPart vl lo->IsPart vu hi->r x lo hi H Q ->
  ∃T id,typeLookup (.type T) "__getitem__"=pure (some (.builtin id))/\s.TypeIs v T/\wpAny (model X.prog X.w) X.A (getItem v (.ref sl)) (EP X pins σ Q) X.xe s
theorem SlR.or{r r':V->Option Int->Option Int->Hp->VK->Prop}(h:SlR X r)(h':SlR X r'):SlR X (fun x lo hi H Q=>r x lo hi H Q∨r' x lo hi H Q):=by
 intro pins s σ H x v vl vu lo hi sl Q I rx hs pl pu q
 rcases q with q | q
 ·exact h pins s σ H x v vl vu lo hi sl Q I rx hs pl pu q
 ·exact h' pins s σ H x v vl vu lo hi sl Q I rx hs pl pu q
noncomputable def cutV(xs:List V)(lo hi:Option Int):List V:=(xs.drop (HT.sIx xs.length 0 lo)).take (HT.sIx xs.length xs.length hi-HT.sIx xs.length 0 lo)
theorem z9q(xs:List V)(lo hi:Option Int):(cutV xs lo hi).length<=xs.length:=by
 unfold cutV
 rw[List.length_take,List.length_drop]
 lia
noncomputable def rSlT(K:PySem.W.Frag):V->Option Int->Option Int->Hp->VK->Prop:=fun x lo hi H Q=>∃a xs,x = .ref a/\SqT K H a xs /\
 ¬(HT.sIx xs.length 0 lo=0/\HT.sIx xs.length xs.length hi=xs.length)/\∀p,H p=none->Q (.ref p) (upd H p (.tup (cutV xs lo hi)))
theorem x7i:SlR X (rSlT X.K):=by
 intro pins s σ H x v vl vu lo hi sl Q I rx hs pl pu h
 obtain⟨a,xs,rfl,hx,hw,q⟩:=h
 cases rx
 obtain⟨its,r,ht,hz⟩:=I.tuple hx
 have hlen:its.toArray.size=xs.length:=by rw[List.size_toArray];exact r.length.symm
 refine⟨"tuple",_,PyProof.Rows.slot_tuple_getitem.lookup,ht.typeIs,?_⟩
 refine HT.getItem_tuple_cut ht hs pl pu (by rw[hlen];exact hw) ?_ (by rw[hlen];exact hz)
 rw[hlen]
 refine⟨.ref s.heap.objs.size,_,I.laid (t':=s.toks) (o:=.tup (cutV xs lo hi)) (fun b ob q=>Heap.get?_push_of_some _ q) (Nat.le_refl _) ?_,rfl,q _ (I.hok.fresh (Nat.le_refl _))⟩
 exact⟨Nat.le_trans (z9q xs lo hi) hz,_,(r.drop (HT.sIx xs.length 0 lo)).take (HT.sIx xs.length xs.length hi-HT.sIx xs.length 0 lo),z6a.new _ _⟩
noncomputable def x9e(K:PySem.W.Frag):R2:=fun x y H Q=>∃a b xs ys,x = .ref a/\y = .ref b/\SqT K H a xs/\SqT K H b ys/\xs≠[]/\xs.length+ys.length<=sizeLine /\
 (ys=[]->Q (.ref a) H)/\(ys≠[]->∀p,H p=none->Q (.ref p) (upd H p (.tup (xs++ys))))
theorem Vals.nil_iff{xs:List V}{us:List Value}(r:Vals xs us):us=[]↔xs=[]:=by
 cases r with
 | nil=>simp
 | cons _ _=>simp
theorem x5t:OpR X (binaryOp .Add) (x9e X.K):=by
 intro pins s σ H x y v u Q I rx ry h
 obtain⟨a,b,xs,ys,rfl,rfl,ha,hb,hx,hz,q1,q2⟩:=h
 cases rx
 cases ry
 obtain⟨its,r1,p1,_⟩:=I.tuple ha
 obtain⟨its2,r2,p2,_⟩:=I.tuple hb
 refine HT.cat_tup p1 p2 (fun z=>hx (r1.nil_iff.mp z)) (fun z=>⟨.ref a,H,I,rfl,q1 (r2.nil_iff.mp z)⟩) (fun z=>?_) (by rw[<-r1.length,<-r2.length];exact hz)
 refine⟨.ref s.heap.objs.size,_,I.laid (t':=s.toks) (o:=.tup (xs++ys)) (fun b ob q=>Heap.get?_push_of_some _ q) (Nat.le_refl _) ?_,rfl,q2 (fun w=>z (r2.nil_iff.mpr w)) _ (I.hok.fresh (Nat.le_refl _))⟩
 exact⟨by rw[List.length_append];exact hz,_,r1.append r2,z6a.new _ _⟩
end
end L2
namespace L2
open PySem PySem.Spec PyProof.Rows
noncomputable def ixN(n:Nat)(i:Int):Option Nat:=if 0<=i then (if i<n then some i.toNat else none) else if -(n:Int)<=i then some (i+n).toNat else none
noncomputable def atI{α:Type}(xs:List α)(i:Int):Option α:=(ixN xs.length i).bind fun j=>xs[j]?
theorem x6p{n:Nat}{i:Int}{j:Nat}(h:ixN n i=some j):seqIndex? i n=some j/\j<n /\ -(n:Int)<=i/\i<n:=by
 unfold ixN at h
 by_cases h0:0<=i
 ·rw[if_pos h0] at h
  by_cases h1:i<n
  ·rw[if_pos h1] at h
   have e:i.toNat=j:=Option.some.inj h
   exact⟨by rw[seqIndex_of h0 h1,e],by lia,by lia,h1⟩
  ·rw[if_neg h1] at h;cases h
 ·rw[if_neg h0] at h
  by_cases h1:-(n:Int)<=i
  ·rw[if_pos h1] at h
   have e:(i+n).toNat=j:=Option.some.inj h
   exact⟨by rw[seqIndex_neg (by lia) h1,e],by lia,h1,by lia⟩
  ·rw[if_neg h1] at h;cases h
theorem y5h{α:Type}{xs:List α}{i:Int}{v:α}(h:atI xs i=some v):∃j,seqIndex? i xs.length=some j/\xs[j]? = some v/\j<xs.length /\ -(xs.length:Int)<=i/\i<xs.length:=by
 unfold atI at h
 cases e:ixN xs.length i with
 | none=>rw[e] at h;cases h
 | some j =>
   rw[e] at h
   obtain⟨h1,h2,h3,h4⟩:=x6p e
   exact⟨j,h1,h,h2,h3,h4⟩
noncomputable def y5i(b:Expr):Prop:=∀o i,subscripted b false o i=operate [o,i] (getItem o i)
noncomputable def IxR(X:Cx)(r:R2):Prop :=
 ∀(value slice:Expr) (pins:List (Addr×Obj)) (s:Shared) (σ:St) (H:Hp) (x y:V) (v u:Value) (Q:VK),Inv X pins σ H s->RelV x v->RelV y u->r x y H Q ->
  subscripted slice false v u=operate [v,u] (getItem v u)->wpAny (model X.prog X.w) X.A (subscriptTail value slice v u) (EP X pins σ Q) X.xe s
noncomputable def MtR(X:Cx)(id:String)(r:V->List V->Hp->VK->Prop):Prop :=
 ∀(pins:List (Addr×Obj)) (s:Shared) (σ:St) (H:Hp) (x:V) (xs:List V) (v:Value) (us:List Value) (Q:VK),Inv X pins σ H s->RelV x v->Vals xs us->r x xs H Q ->
  wpAny (model X.prog X.w) X.A (call (.builtin id) (v::us)) (EP X pins σ Q) X.xe s
section
variable {X:Cx}{a b:Expr}{ta tb:TE}{pos:Pos}
theorem IxR.or{r r':R2}(h:IxR X r)(h':IxR X r'):IxR X (fun x y H Q=>r x y H Q∨r' x y H Q):=by
 intro value slice pins s σ H x y v u Q I rx ry q hs
 rcases q with q | q
 ·exact h value slice pins s σ H x y v u Q I rx ry q hs
 ·exact h' value slice pins s σ H x y v u Q I rx ry q hs
theorem MtR.or{id:String}{r r':V->List V->Hp->VK->Prop}(h:MtR X id r)(h':MtR X id r'):MtR X id (fun x xs H Q=>r x xs H Q∨r' x xs H Q):=by
 intro pins s σ H x xs v us Q I rx rs q
 rcases q with q | q
 ·exact h pins s σ H x xs v us Q I rx rs q
 ·exact h' pins s σ H x xs v us Q I rx rs q
noncomputable def rIxL(K:PySem.W.Frag):R2:=fun x y H Q=>∃p xs i v,x = .ref p/\y = .int i/\SqL K H p xs/\atI xs i=some v/\Q v H
noncomputable def rIxT(K:PySem.W.Frag):R2:=fun x y H Q=>∃p xs i v,x = .ref p/\y = .int i/\SqT K H p xs/\atI xs i=some v/\Q v H
noncomputable def rIxS:R2:=fun x y H Q=>∃z i c,x = .str z/\y = .int i/\z.length<=sizeLine/\atI z.cps.toList i=some c/\Q (.str ⟨#[c]⟩) H
theorem x0e:IxR X (rIxL X.K):=by
 intro value slice pins s σ H x y v u Q I rx ry h hs
 obtain⟨p,xs,i,z,rfl,rfl,hq,he,q⟩:=h
 cases rx
 obtain⟨t,rfl⟩:=ry
 obtain⟨its,r,pl,hz⟩:=I.list hq
 obtain⟨j,h1,h2,h3,h4,h5⟩:=y5h he
 obtain⟨w,ew,rw'⟩:=r.get h2
 have hl:=r.length
 have hn:=y2i
 have fin:EP X pins σ Q w s:=⟨z,H,I,rw',q⟩
 by_cases h0:0<=i
 ·have hj:i.toNat=j:=by
   rw[seqIndex_of h0 h5] at h1
   exact Option.some.inj h1
  exact item_listR pl.isList h0 (by lia) (by rw[hj];simpa using ew) fin hs
 ·have hj:(i+(its.toArray.size:Int)).toNat=j:=by
   rw[seqIndex_neg (by lia) h4] at h1
   rw[List.size_toArray,<-hl]
   exact Option.some.inj h1
  exact subscriptTail_builtinR (x:=w) pl.isList.typeIs slot_list_getitem.lookup
   (wpAny_getItem_list_neg (Q:=fun r s'=>r=w/\EP X pins σ Q r s') pl.isList (by lia) (by rw[List.size_toArray]<;>lia) (by lia) (by rw[hj];simpa using ew) ⟨rfl,fin⟩) hs
theorem x4k:IxR X (rIxT X.K):=by
 intro value slice pins s σ H x y v u Q I rx ry h hs
 obtain⟨p,xs,i,z,rfl,rfl,hq,he,q⟩:=h
 cases rx
 obtain⟨t,rfl⟩:=ry
 obtain⟨its,r,pl,hz⟩:=I.tuple hq
 obtain⟨j,h1,h2,h3,h4,h5⟩:=y5h he
 obtain⟨w,ew,rw'⟩:=r.get h2
 have hl:=r.length
 have hn:=y2i
 have fin:EP X pins σ Q w s:=⟨z,H,I,rw',q⟩
 exact subscriptTail_builtinR (x:=w) pl.typeIs slot_tuple_getitem.lookup
  (getItem_tuple (j:=j) (Q:=fun r s'=>r=w/\EP X pins σ Q r s') pl (by lia) (by lia) (by rw[List.size_toArray,<-hl];exact h1) (by simpa using ew) ⟨rfl,fin⟩) hs
theorem x8q:IxR X rIxS:=by
 intro value slice pins s σ H x y v u Q I rx ry h hs
 obtain⟨z,i,c,rfl,rfl,hz,he,q⟩:=h
 obtain⟨t,rfl⟩:=rx
 obtain⟨t',rfl⟩:=ry
 obtain⟨j,h1,h2,h3,h4,h5⟩:=y5h he
 have hl:z.cps.toList.length=z.length:=by simp[Str.length]
 rw[hl] at h1 h4 h5
 have hn:=y2i
 exact tail_any (typeIs_str s z t) slot_str_getitem.lookup (getItem_str (c:=c) (by
  have e1:decide (i < -(2^63:Int))=false:=decide_eq_false (by lia)
  have e2:decide (i≥2^63)=false:=decide_eq_false (by lia)
  rw[e1,e2,Bool.or_false]) (by rw[h1];simpa using h2) ⟨.str ⟨#[c]⟩,H,I.tok _,⟨_,rfl⟩,q⟩) hs
theorem Inv.lst{pins:List (Addr×Obj)}{σ:St}{H:Hp}{s:Shared}{p:Addr}{xs:List V}(I:Inv X pins σ H s)(h:H p=some (.lst xs)) :
 ∃(its:List Value) (n:Nat),Vals xs its/\s.heap.get? p=some { cls:=.type "list",data:=.seq its.toArray n }/\xs.length<=sizeLine:=by
 obtain⟨z,its,n,r,e⟩:=I.hok p _ h
 exact⟨its,n,r,e,z⟩
theorem y1v(lo hi:Option Int)(n:Nat):(sliceBounds lo hi none n).1=((HT.sIx n 0 lo:Nat):Int)/\(sliceBounds lo hi none n).2.1=((HT.sIx n n hi:Nat):Int)/\(sliceBounds lo hi none n).2.2=1:=by
 refine⟨?_,?_,rfl⟩
 ·cases lo with
  | none=>simp[sliceBounds,HT.sIx]
  | some i =>
    simp only[sliceBounds,HT.sIx,Option.getD_none,show(1:Int)>0 by decide,if_true]
    by_cases h:i<0
    ·simp only[h,if_true]<;>lia
    ·simp only[h,if_false]<;>lia
 ·cases hi with
  | none=>simp[sliceBounds,HT.sIx]
  | some i =>
    simp only[sliceBounds,HT.sIx,Option.getD_none,show(1:Int)>0 by decide,if_true]
    by_cases h:i<0
    ·simp only[h,if_true]<;>lia
    ·simp only[h,if_false]<;>lia
theorem y0x(its:List Value)(lo hi:Option Int):slicePick its.toArray lo hi none=((its.drop (HT.sIx its.length 0 lo)).take (HT.sIx its.length its.length hi-HT.sIx its.length 0 lo)).toArray:=by
 obtain⟨h1,h2,h3⟩:=y1v lo hi its.toArray.size
 unfold slicePick
 rw[h1,h2,h3]
 simp only[sliceRange_one,pick_run,List.size_toArray]<;>rfl
noncomputable def rSlL(K:PySem.W.Frag):V->Option Int->Option Int->Hp->VK->Prop:=fun x lo hi H Q=>∃a xs,x = .ref a/\SqL K H a xs/\∀p,H p=none->Q (.ref p) (upd H p (.lst (cutV xs lo hi)))
theorem y8l:SlR X (rSlL X.K):=by
 intro pins s σ H x v vl vu lo hi sl Q I rx hs pl pu h
 obtain⟨a,xs,rfl,hx,q⟩:=h
 cases rx
 obtain⟨its,r,ht,hz⟩:=I.list hx
 have hlen:=r.length
 refine⟨"list",_,slot_list_getitem.lookup,ht.isList.typeIs,?_⟩
 refine wpAny_getItem_list_slice ht.isList hs pl pu .none (by simp) ?_ (by rw[List.size_toArray]<;>lia)
 rw[y0x,<-hlen]
 refine⟨.ref s.heap.objs.size,_,I.laid (t':=s.toks) (o:=.lst (cutV xs lo hi)) (fun b ob q=>Heap.get?_push_of_some _ q) (Nat.le_refl _) ?_,rfl,q _ (I.hok.fresh (Nat.le_refl _))⟩
 exact⟨Nat.le_trans (z9q xs lo hi) hz,_,0,(r.drop (HT.sIx xs.length 0 lo)).take (HT.sIx xs.length xs.length hi-HT.sIx xs.length 0 lo),Heap.get?_push_size _ rfl⟩
theorem y3l:z5i X (.builtin "len") (fun xs H Q=>∃p ys,xs=[.ref p]/\(SqL X.K H p ys∨SqT X.K H p ys)/\Q (.int ys.length) H):=by
 intro pins s σ H xs us Q I r h
 obtain⟨p,ys,rfl,hq,q⟩:=h
 obtain⟨u,rfl,rx⟩:=y0v r
 cases rx
 have hn:=y2i
 rcases hq with hq | hq
 ·obtain⟨its,r',pl,hz⟩:=I.list hq
  have hlen:=r'.length
  exact Calls.call_len_list pl.isList (by simp only[List.size_toArray]<;>lia) ⟨.int ys.length,H,I.tok _,⟨s.toks+1,by rw[List.size_toArray,hlen]⟩,q⟩
 ·obtain⟨its,r',pl,hz⟩:=I.tuple hq
  have hlen:=r'.length
  exact len_tuple pl (by simp only[List.size_toArray]<;>lia) ⟨.int ys.length,H,I.tok _,⟨s.toks+1,by rw[List.size_toArray,hlen]⟩,q⟩
theorem z5i.or{f:Value}{r r':List V->Hp->VK->Prop}(h:z5i X f r)(h':z5i X f r'):z5i X f (fun xs H Q=>r xs H Q∨r' xs H Q):=by
 intro pins s σ H xs us Q I rs q
 rcases q with q | q
 ·exact h pins s σ H xs us Q I rs q
 ·exact h' pins s σ H xs us Q I rs q
theorem y3k:z5i X (.type "list") (fun xs H Q=>∃p ys,xs=[.ref p]/\(SqL X.K H p ys∨SqT X.K H p ys)/\∀l,H l=none->Q (.ref l) (upd H l (.lst ys))):=by
 intro pins s σ H xs us Q I r h
 obtain⟨p,ys,rfl,hq,q⟩:=h
 obtain⟨u,rfl,rx⟩:=y0v r
 cases rx
 have fin:∀(its:List Value),Vals ys its->ys.length<=sizeLine->∀(h':Heap) (c':Nat),(∀b o',s.heap.get? b=some o'->h'.get? b=some o') ->
  h'.get? s.heap.objs.size=some { cls:=.type "list",dict:=none,data:=.seq its.toArray c',slots:=#[] }->EP X pins σ Q (.ref s.heap.objs.size) { s with heap:=h' }:=fun its r' hz h' c' kp e =>
  ⟨.ref s.heap.objs.size,_,I.laid (t':=s.toks) kp (Nat.le_refl _) (show z4x X.prog X.w _ h' _ (.lst ys) from⟨hz,its,c',r',e⟩),rfl,q _ (I.hok.fresh (Nat.le_refl _))⟩
 rcases hq with hq | hq
 ·obtain⟨its,r',pl,hz⟩:=I.list hq
  have hlen:=r'.length
  obtain⟨o,ho,hc,n,hd⟩:=pl.isList
  exact call_list_seq p (.inl rfl) ho hc hd (fun h' c' kp e=>fin its r' hz h' c' kp e) (by simp only[List.size_toArray]<;>lia)
 ·obtain⟨its,r',pl,hz⟩:=I.tuple hq
  have hlen:=r'.length
  obtain⟨o,ho,hc,n,hd⟩:=pl
  exact call_list_seq p (.inr rfl) ho hc hd (fun h' c' kp e=>fin its r' hz h' c' kp e) (by simp only[List.size_toArray]<;>lia)
theorem y1o:z5i X (.type "tuple") (fun xs H Q=>∃p ys,xs=[.ref p]/\((SqL X.K H p ys/\∀l,H l=none->Q (.ref l) (upd H l (.tup ys)))∨(SqT X.K H p ys/\Q (.ref p) H))):=by
 intro pins s σ H xs us Q I r h
 obtain⟨p,ys,rfl,h⟩:=h
 obtain⟨u,rfl,rx⟩:=y0v r
 cases rx
 rcases h with ⟨hq,q⟩ | ⟨hq,q⟩
 ·obtain⟨its,r',pl,hz⟩:=I.list hq
  have hlen:=r'.length
  refine call_tuple_list pl.isList (fun h' kp=>?_) (by simp only[List.size_toArray]<;>lia)
  have I1:Inv X pins σ H { s with heap:=h' }:=I.kept (t':=s.toks) kp
  have I2:Inv X pins σ (upd H h'.objs.size (.tup ys)) { s with heap:=h'.push { cls:=.type "tuple",data:=.seq its.toArray } } :=
   I1.laid (t':=s.toks) (fun b o e=>Heap.get?_push_of_some _ e) (Nat.le_refl _) (show z4x X.prog X.w _ _ _ (.tup ys) from⟨hz,its,r',z6a.new _ _⟩)
  exact⟨.ref h'.objs.size,_,I2,rfl,q _ (I1.hok.fresh (Nat.le_refl _))⟩
 ·obtain⟨its,r',pl,hz⟩:=I.tuple hq
  exact call_tuple_same pl ⟨.ref p,H,I,rfl,q⟩
noncomputable def tyV(K:PySem.W.Frag)(T:String)(x:V)(H:Hp):Prop:=match x with
 | .str _=>T="str"
 | .int _=>T="int"
 | .ref p=>(T="list"/\∃xs,SqL K H p xs)∨(T="tuple"/\∃o,K.lookup p=some o/\o.cls = .type "tuple"/\o.dict=none) ∨
    (T="dict"/\((∃kvs,H p=some (.dK kvs))∨∃kvs,H p=some (.dT kvs)))∨(T="set"/\∃S n,H p=some (.set S n))
 | _=>False
theorem y5j{pins:List (Addr×Obj)}{σ:St}{H:Hp}{s:Shared}{T:String}{x:V}{v:Value}(I:Inv X pins σ H s)(r:RelV x v)(ty:tyV X.K T x H) :
 s.TypeIs v T/\∀a,v = .ref a->∃ob,s.heap.get? a=some ob/\ob.dict=none:=by
 cases x with
 | str z =>
   obtain⟨t,rfl⟩:=r
   cases (show T="str" from ty)
   exact⟨typeIs_str s z t,fun _ e=>nomatch e⟩
 | int i =>
   obtain⟨t,rfl⟩:=r
   cases (show T="int" from ty)
   exact⟨typeIs_int s i t,fun _ e=>nomatch e⟩
 | ref p =>
   cases r
   rcases ty with ⟨rfl,xs,hq⟩ | ⟨rfl,o,hk,hc,hd⟩ | ⟨rfl,hk⟩ | ⟨rfl,S,n,hk⟩
   ·obtain⟨its,_,pl,_⟩:=I.list hq
    refine⟨pl.isList.typeIs,fun a e=>?_⟩
    cases e
    obtain⟨o,n,e,c,hd,_⟩:=pl
    exact⟨o,e,hd⟩
   ·refine⟨⟨o,I.kIn p o hk,hc⟩,fun a e=>?_⟩
    cases e
    exact⟨o,I.kIn _ o hk,hd⟩
   ·have z:∃o,s.heap.get? p=some o/\o.ExactDict:=by
     rcases hk with ⟨kvs,hk⟩ | ⟨kvs,hk⟩
     ·obtain⟨_,_,_,_,o,_,_,e,ex,_⟩:=I.hok p _ hk
      exact⟨o,e,ex⟩
     ·obtain⟨_,_,_,_,o,_,_,e,ex,_⟩:=I.hok p _ hk
      exact⟨o,e,ex⟩
    obtain⟨o,e,ex⟩:=z
    refine⟨⟨o,e,ex.1⟩,fun a e2=>?_⟩
    cases e2
    exact⟨o,e,ex.2.1⟩
   ·obtain⟨o,_,_,_,e,ex,_⟩:=I.hok p _ hk
    refine⟨⟨o,e,ex.1⟩,fun a e2=>?_⟩
    cases e2
    exact⟨o,e,ex.2.1⟩
 | _=>exact False.elim ty
variable {o e:Expr}{es:List Expr}{to:TE}{t:TA}{name:Str}{apos cpos:Pos}{T id:String}{r:V->List V->Hp->VK->Prop}
end
end L2
namespace L2
open PySem PySem.Spec PyProof.Rows
noncomputable def MtM(X:Cx)(id:String)(r:V->List V->Hp->VK->Prop):Prop :=
 ∀(pins:List (Addr×Obj)) (s:Shared) (σ:St) (H:Hp) (x:V) (xs:List V) (v:Value) (us:List Value) (Q:VK),Inv X pins σ H s->RelV x v->Vals xs us->r x xs H Q ->
  wpAny (model X.prog X.w) X.A (call (.builtin id) (v::us)) (EP X pins σ Q) X.xe s
theorem Vals.one:∀{x:V} {us:List Value},Vals [x] us->∃u,us=[u]/\RelV x u
 | _,_,.cons r .nil=>⟨_,rfl,r⟩
theorem Vals.zero:∀{us:List Value},Vals [] us->us=[]
 | _,.nil=>rfl
theorem Vals.dropLast{xs:List V}{us:List Value}(h:Vals xs us):Vals xs.dropLast us.dropLast:=by
 induction h with
 | nil=>exact .nil
 | cons r t ih =>
   cases t with
   | nil=>exact .nil
   | cons q t'=>exact .cons r ih
theorem Vals.eraseIdx:∀{xs:List V} {us:List Value} (i:Nat),Vals xs us->Vals (xs.eraseIdx i) (us.eraseIdx i)
 | _,_,_,.nil=>.nil
 | _,_,0,.cons _ t=>t
 | _,_,i+1,.cons r t=>.cons r (Vals.eraseIdx i t)
theorem Vals.reverse{xs:List V}{us:List Value}(h:Vals xs us):Vals xs.reverse us.reverse:=by
 induction h with
 | nil=>exact .nil
 | cons r t ih=>rw[List.reverse_cons,List.reverse_cons];exact Vals.append ih (.cons r .nil)
theorem Vals.rep{xs:List V}{us:List Value}(h:Vals xs us):∀k:Nat,Vals (List.replicate k xs).flatten (List.replicate k us).flatten
 | 0=>.nil
 | k+1=>by
   rw[List.replicate_succ,List.replicate_succ,List.flatten_cons,List.flatten_cons]
   exact Vals.append h (Vals.rep h k)
theorem y7v{α:Type}(l:List α):l.eraseIdx (l.length-1)=l.dropLast:=by
 induction l with
 | nil=>rfl
 | cons a r ih =>
   cases r with
   | nil=>rfl
   | cons b r =>
     have e:(a::b::r).length-1=((b::r).length-1)+1:=by
      have h1:(a::b::r).length=r.length+2:=rfl
      have h2:(b::r).length=r.length+1:=rfl
      lia
     rw[e,List.eraseIdx_cons_succ,ih]
     all_goals rfl
theorem y2w(its:List Value):∀(k:Nat) (acc:List Value),
 List.foldl (fun x1 x2=>x1++x2) acc.toArray (List.replicate k its.toArray)=(acc++(List.replicate k its).flatten).toArray
 | 0,acc=>by simp
 | k+1,acc=>by
   have e:acc.toArray++its.toArray=(acc++its).toArray:=by simp
   have e2:(acc++its)++(List.replicate k its).flatten=acc++(List.replicate (k+1) its).flatten:=by
    rw[List.replicate_succ,List.flatten_cons,List.append_assoc]
   rw[<-e2,<-y2w its k (acc++its),<-e,List.replicate_succ,List.foldl_cons]
section
variable {X:Cx}{pins:List (Addr×Obj)}{σ:St}{H:Hp}{s:Shared}{l b:Addr}{xs ys zs:List V}
theorem Inv.lset{its its':List Value}{n:Nat}{f:Array Value->Array Value}{t':Nat}(I:Inv X pins σ H s)(hH:H l=some (.lst xs))
 (e:s.heap.get? l=some { cls:=.type "list",data:=.seq its.toArray n }) (hf:f its.toArray=its'.toArray) (hv:Vals ys its') (hz:ys.length<=sizeLine) :
 Inv X pins σ (upd H l (.lst ys)) { s with heap:=s.heap.update l (Obj.mapSeq f),toks:=t' }:=by
 have q:=PySem.IsL.update e f
 rw[hf] at q
 refine I.write (x:=l) (e:=l) (by rw[hH];exact trivial) (.inl rfl) (fun b' u hb hu=>(Heap.get?_update_other s.heap (Obj.mapSeq f) (Ne.symm hb)).trans hu) ⟨_,q⟩ ?_
 exact⟨hz,its',_,hv,q⟩
theorem Inv.lnew{its:List Value}{t':Nat}(I:Inv X pins σ H s)(hv:Vals ys its)(hz:ys.length<=sizeLine) :
 Inv X pins σ (upd H s.heap.objs.size (.lst ys)) { s with heap:=s.heap.push { cls:=.type "list",data:=.seq its.toArray },toks:=t' } :=
 I.laid (fun _ _ q=>Heap.get?_push_of_some _ q) (Nat.le_refl _) ⟨hz,its,0,hv,Heap.get?_push_size _ rfl⟩
theorem Inv.fresh(I:Inv X pins σ H s):H s.heap.objs.size=none:=I.hok.fresh (Nat.le_refl _)
theorem Inv.lstM(I:Inv X pins σ H s)(hH:H l=some (.lst xs)):xs.length<=sizeLine/\∃(its:List Value) (n:Nat),Vals xs its/\xs.length=its.length/\s.heap.get? l=some { cls:=.type "list",data:=.seq its.toArray n }:=by
 obtain⟨z,its,n,r,e⟩:=I.hok l _ hH
 exact⟨z,its,n,r,r.length,e⟩
theorem x2i{n:Nat}(h:n<=sizeLine):Builtin.List.listTooLong n=false:=by
 unfold Builtin.List.listTooLong
 exact decide_eq_false (by lia)
end
section
variable {X:Cx}
noncomputable def x5g:V->List V->Hp->VK->Prop:=fun x vs H Q=>∃l xs y,x = .ref l/\vs=[y]/\H l=some (.lst xs)/\xs.length<sizeLine/\Q .non (upd H l (.lst (xs++[y])))
theorem y2f:MtM X "list.append" x5g:=by
 intro pins s σ H x vs v us Q I rx rv h
 obtain⟨l,xs,y,rfl,rfl,hH,hz,q⟩:=h
 cases rx
 obtain⟨u,rfl,ru⟩:=rv.one
 obtain⟨z,its,n,r,hl,e⟩:=I.lstM hH
 refine call_meets F.slot_list_append ⟨_,e,rfl⟩ F.entry_list_append (F.args_list_append_2 _ _) (PySem.list_append l its.toArray n u (by rw[List.size_toArray];lia)) ⟨e,?_⟩
 refine⟨.non,_,I.lset (its':=its++[u]) hH e (by simp) (r.append (.cons ru .nil)) ?_,rfl,q⟩
 rw[List.length_append,List.length_singleton]
 lia
noncomputable def x5f:V->List V->Hp->VK->Prop:=fun x vs H Q=>∃l b xs zs,x = .ref l/\vs=[.ref b]/\H l=some (.lst xs)/\H b=some (.lst zs)/\xs.length+zs.length<=sizeLine/\Q .non (upd H l (.lst (xs++zs)))
theorem y9u:MtM X "list.extend" x5f:=by
 intro pins s σ H x vs v us Q I rx rv h
 obtain⟨l,b,xs,zs,rfl,rfl,hH,hB,hz,q⟩:=h
 cases rx
 obtain⟨u,rfl,ru⟩:=rv.one
 cases ru
 obtain⟨z,its,n,r,hl,e⟩:=I.lstM hH
 obtain⟨z2,its2,n2,r2,hl2,e2⟩:=I.lstM hB
 have hsz:its.toArray.size+its2.toArray.size<=sizeLine:=by rw[List.size_toArray,List.size_toArray];lia
 have hlong:¬(!its.toArray.isEmpty&&Builtin.List.listTooLong (its.toArray.size+its2.toArray.size))=true:=by
  rw[x2i hsz,Bool.and_false]
  exact Bool.false_ne_true
 refine call_meets F.slot_list_extend ⟨_,e,rfl⟩ F.entry_list_extend (F.args_list_extend_2 _ _)
  (AutoSeq1.list_extend_list_list_0 l its.toArray n b its2.toArray n2 hlong (by rw[List.size_toArray];lia) (by lia)) ⟨e,e2,?_⟩
 refine⟨.non,_,I.lset (its':=its++its2) hH e (by simp) (r.append r2) ?_,rfl,q⟩
 rw[List.length_append]
 lia
noncomputable def rPop:V->List V->Hp->VK->Prop:=fun x vs H Q=>∃l xs y,x = .ref l/\vs=[]/\H l=some (.lst xs)/\xs[xs.length-1]? = some y/\Q y (upd H l (.lst xs.dropLast))
theorem x8b:MtM X "list.pop" rPop:=by
 intro pins s σ H x vs v us Q I rx rv h
 obtain⟨l,xs,y,rfl,rfl,hH,hy,q⟩:=h
 cases rx
 have hus:=rv.zero
 subst hus
 obtain⟨z,its,n,r,hl,e⟩:=I.lstM hH
 obtain⟨u,hu,ru⟩:=r.get hy
 have hy':its.toArray[its.toArray.size-1]? = some u:=by
  show its.toArray[its.length-1]? = some u
  rw[<-Array.getElem?_toList,<-hl]
  exact hu
 refine call_meets F.slot_list_pop ⟨_,e,rfl⟩ F.entry_list_pop (F.args_list_pop_1 _) (MeetsSeq.list_pop_last l its.toArray n u hy' (by rw[List.size_toArray];lia)) ⟨e,?_⟩
 refine⟨y,_,I.lset (its':=its.dropLast) hH e ?_ r.dropLast ?_,ru,q⟩
 ·show its.toArray.eraseIdxIfInBounds (its.toArray.size-1)=its.dropLast.toArray
  rw[List.size_toArray,List.eraseIdxIfInBounds_toArray,y7v]
 ·rw[List.length_dropLast]
  lia
noncomputable def rCat:R2:=fun x y H Q=>∃l b xs zs,x = .ref l/\y = .ref b/\H l=some (.lst xs)/\H b=some (.lst zs)/\xs.length+zs.length<=sizeLine/\∀p,H p=none->Q (.ref p) (upd H p (.lst (xs++zs)))
theorem x7y:OpR X (binaryOp .Add) rCat:=by
 intro pins s σ H x y v u Q I rx ry h
 obtain⟨l,b,xs,zs,rfl,rfl,hH,hB,hz,q⟩:=h
 cases rx
 cases ry
 obtain⟨z,its,n,r,hl,e⟩:=I.lstM hH
 obtain⟨z2,its2,n2,r2,hl2,e2⟩:=I.lstM hB
 refine PySem.P.add_list e e2 ?_ (by rw[List.size_toArray,List.size_toArray];lia)
 have ea:its.toArray++its2.toArray=(its++its2).toArray:=by simp
 rw[ea]
 exact⟨.ref _,_,I.lnew (t':=s.toks) (r.append r2) (by rw[List.length_append];lia),rfl,q _ I.fresh⟩
theorem y9z{α:Type}(xs:List α)(k:Nat):(List.replicate k xs).flatten.length=k*xs.length:=by
 induction k with
 | zero=>simp
 | succ k ih=>rw[List.replicate_succ,List.flatten_cons,List.length_append,ih,Nat.succ_mul,Nat.add_comm]
end
section
variable {prog:Program}{w:World}{A:Around}{E:Value->Shared->Prop}{s:Shared}
end
section
variable {X:Cx}
end
end L2
namespace Att
open PySem PySem.W PySem.Calls PyProof.Rows
theorem z9f{P:Params}{h:Heap}:∀(ns:List Int) (vs:List Value),WellAll P h vs (ns.map WData.int)->IntsAre vs ns:=by
 intro ns
 induction ns with
 | nil =>
   intro vs w
   rw[List.map_nil] at w
   cases w
   exact .nil
 | cons n ns ih =>
   intro vs w
   rw[List.map_cons] at w
   cases w with
   | cons a b =>
     cases a
     exact .cons _ _ (ih _ b)
theorem y8m{l:OpenLaw}{n:Nat}(hn:l.most=some n){P:Params}{h:Heap}{args:List WData}{vals:List Value}
 (hpre:l.row.toRowW.claim.pre args=true) (hwl:WellAll P h vals args) :
 ∃a vs ns,vals=[Value.ref a]/\args=[WData.list (ns.map WData.int)]/\h.get? a=some { cls:=.type "list",data:=.seq vs.toArray }/\IntsAre vs ns/\ns.length<=n:=by
 have hsh:WShape.hasAll [] args [.list .int]=true:=(pre_splitW hpre).1
 have hc:l.pre.holds [] { args:=args }=true:=(pre_splitW hpre).2
 obtain⟨d,r,rfl,h1,h2⟩:=hasAllW_cons hsh
 obtain rfl:=hasAllW_nil h2
 obtain⟨xs,rfl,h3⟩:=hasW_list h1
 obtain⟨ns,rfl⟩:=items_int h3
 have hlen:ns.length<=n:=by
  unfold OpenLaw.pre at hc
  have h4:(WTm.not (.lt (.lit (.int (n:Int))) (.len (.arg 0)))).holds [] { args:=[.list (ns.map .int)] }=true:=by
   have h4:=(holds_andW hc).1
   rw[hn] at h4
   exact h4
  have h5:=condW_of h4 (w_not (w_lt w_lit (w_len_list (w_arg rfl))))
  rw[List.length_map] at h5
  refine Nat.le_of_not_lt fun q=>?_
  have q':(n:Int)<((ns.length:Nat):Int):=by lia
  first
   | (rw[decide_eq_true q'] at h5;exact absurd h5 (by decide))
   | (simp at h5;lia)
 cases hwl with
 | cons w1 w2 =>
   cases w2
   cases w1 with
   | list ho hall=>exact⟨_,_,ns,rfl,rfl,ho,z9f ns _ hall,hlen⟩
theorem y8v(l:OpenLaw)(args:List WData):l.row.toRowW.claim.post args (.bool true) args=true :=
 postW_of (r:=l.row.toRowW) (X:=(true==true))
  (show WShape.has [] (.bool true) .bool=true by first | rfl | decide | simp[WShape.has,WShape.arms,WShape.armsAll])
  (show(WTm.eq .res (.lit (.bool true))).value [] { args:=args,res:=some (.bool true),after:=args }=some (.bool (true==true)) from w_eq_bool (w_res rfl) w_lit) rfl
theorem attach_call{l:OpenLaw}{n:Nat}{q:Program}{loose:List Str}{XP:(Str->Option Value)->Heap->Prop}{YP:World->Heap->Prop}{d:DefRec}
 (hn:l.most=some n) (hdf:d.params.defaults=[])
 (call:∀(w:World) (s₀ s₁:Shared) (mg mb:Str->Option Value) (fa:Addr) (o:Obj) (pm cd doc:Value) (a:Addr) (vs:List Value) (ns:List Int),
   Ground q loose [] XP w s₀ mg mb s₁.heap->YP w s₁.heap ->
   s₁.heap.get? fa=some o->o.data = .func (docDef d.name d.params d.body d.scope pm cd doc)->s₁.heap.CodeRec cd d.name->mg d.name=some (.ref fa) ->
   s₁.heap.get? a=some { cls:=.type "list",data:=.seq vs.toArray }->IntsAre vs ns->ns.length<=n->s₁.gens=#[] ->
   codeAny (model l.prog w) callerA (.call (.ref fa) ⟨[.ref a],[]⟩) (fun r s'=>r = .ok (.ret (.bool true))/\OldK s₁.heap s'.heap/\s'.os=s₁.os/\AllBare s'.gens) s₁) :
 WalkO q loose XP YP l.row.toRowW d [] (fun f vs=>PySem.call f vs):=by
 intro w s₀ s₁ mg mb G Y fa o pm cd doc dV kV ho hd hcd hD hmg hg args vals as hpre hlay hrd hwl hlo
 obtain rfl:dV = .none:=Dflts.none hD hdf
 obtain rfl:kV = .none:=Dflts.noKw hD
 obtain⟨a,vs,ns,rfl,rfl,hobj,hints,hlen⟩:=y8m hn hpre hwl
 refine enter_call (codeAny_mono (call w s₀ s₁ mg mb fa o pm cd doc a vs ns G Y ho (fd_plain hd) hcd hmg hobj hints hlen hg) fun r s' hq=>?_)
 obtain⟨rfl,h2,h3,h4⟩:=hq
 exact⟨.inl ⟨.bool true,.bool true,[],rfl,fun _=>rfl,.bool true,y8v l _,fun _=>⟨List.Pairwise.nil,fun _ hm=>(nomatch hm)⟩⟩,h2,h3,h4⟩
section
variable {prog:Program}{w:World}{A:Around}{E:Value->Shared->Prop}{s:Shared}{K:Frag}
end
end Att
namespace L2
open PySem PySem.Spec PyProof.Rows
theorem vals_ints:∀{vs:List Value} {ns:List Int},IntsAre vs ns->Vals (ns.map V.int) vs
 | _,_,.nil=>.nil
 | _,_,.cons n t h=>.cons ⟨t,rfl⟩ (vals_ints h)
noncomputable def Only(H:Hp):Prop:=∀b,H b=none∨∃o xs,H b=some (.frz o (.lst xs))
theorem x2p{P:Program}{w:World}{K:PySem.W.Frag}{mg mb:Str->Option Value}{CX:CXT}{k:Nat}{fa a:Addr}{fd:FuncData}{x:Str}{sp:Sp}{s₁:Shared}{vs:List Value}{ns:List Int}
 (KX:K.In s₁.heap) (hns:s₁.heap.Ns mainGlobals mg) (hb:s₁.heap.Ns builtinsNs mb) (hbb:∀x:Str,x≠"__name__"->mb x=bootBuiltins x) (hlim:s₁.heap.NoLimit) (hg:s₁.gens=#[])
 (ha:s₁.heap.get? a=some { cls:=.type "list",data:=.seq vs.toArray }) (hi:IntsAre vs ns) (hl:ns.length<=sizeLine) (hr:Room k callerA)
 (F:∀base:Heap,K.In base->base.Ns mainGlobals mg->FnOk P w K mg base CX k fa fd [x] sp) (hbind:∀(s:Shared) (u:Value),BindsTo s fd ⟨[u],[]⟩ [(x,u)])
 (hsp:∀H:Hp,Only H->SqL K H a (ns.map V.int)->sp [.ref a] H (fun v _=>v = .bl true) fun _ _ _=>False)
 (hCX:∀H e s',CX [] H s₁ (fun _ _ _=>False) e s'->False) :
 codeAny (model P w) callerA (.call (.ref fa) ⟨[.ref a],[]⟩) (fun r s'=>r = .ok (.ret (.bool true))/\OldK s₁.heap s'.heap/\s'.os=s₁.os/\AllBare s'.gens) s₁:=by
 have rv:=vals_ints hi
 have lenV:=hi.length
 have core:∀H:Hp,Only H->SqL K H a (ns.map V.int)->HOk P w H s₁.heap->(∀b,H b≠none->b=a)->(H a≠none->K.lookup a=none) ->
  codeAny (model P w) callerA (.call (.ref fa) ⟨[.ref a],[]⟩) (fun r s'=>r = .ok (.ret (.bool true))/\OldK s₁.heap s'.heap/\s'.os=s₁.os/\AllBare s'.gens) s₁:=by
  intro H hO hS hok hA hK
  have base_of:∀{b:Addr} {o:Obj},s₁.heap.get? b=some o->H b=none->(hidT s₁.heap H).get? b=some o:=fun e n=>y1h e n
  have noA:∀{b:Addr} {o:Obj} {es:Array DictEntry} {ep:Nat},s₁.heap.get? b=some o->o.data = .dict es ep->H b=none:=fun {b o es ep} e d=>by
   cases q:H b with
   | none=>rfl
   | some u =>
     have e':b=a:=hA b (by rw[q];simp)
     subst e'
     rw[ha] at e;cases e
     have d':Data.seq vs.toArray _=Data.dict es ep:=d
     cases d'
  have nsK:∀{b:Addr} {m:Str->Option Value},s₁.heap.Ns b m->(hidT s₁.heap H).Ns b m:=fun {b m} ⟨o,es,ep,e,d,r⟩=>⟨o,es,ep,base_of e (noA e d),d,r⟩
  have hKb:K.In (hidT s₁.heap H):=fun b o e=>base_of (KX b o e) (by
   cases q:H b with
   | none=>rfl
   | some u =>
     have e':b=a:=hA b (by rw[q];simp)
     subst e'
     rw[hK (by rw[q];simp)] at e;cases e)
  have hM:Mod K mg (hidT s₁.heap H):=⟨hKb,nsK hns,⟨mb,nsK hb,hbb⟩,let ⟨mc,h1,h2⟩:=hlim;⟨mc,nsK h1,h2⟩⟩
  have e0:Env0 P w K mg (hidT s₁.heap H) callerA [] s₁ H:=⟨rfl,hM,fun b o e=>y4l e,Nat.le_of_eq (x0h _ _),trivial,fun b hb=>absurd (show b∈([]:List Addr) from hb) (by simp),hok,.of_eq hg⟩
  refine codeAny_mono ((F _ hKb (nsK hns)).run callerA [] s₁ H ⟨[.ref a],[]⟩ [.ref a] [.ref a] _ _ hr e0 (hbind s₁ (.ref a)) (.cons rfl .nil) (hsp H hO hS)) fun r s' h=>?_
  cases r with
  | error e=>exact(hCX H e s' h).elim
  | ok fl =>
    cases fl with
    | next=>exact False.elim h
    | brk=>exact False.elim h
    | cont=>exact False.elim h
    | ret u =>
      obtain⟨v,H',os,bare,un,hok',r',q⟩:=h
      have q':v = .bl true:=q
      subst q'
      obtain rfl:u=Value.bool true:=r'
      refine⟨rfl,OldK.of_keep fun b o e=>?_,os,bare⟩
      cases q:H b with
      | none=>exact un.keep b o e q (by intro z;exact absurd (show b∈([]:List Addr) from z) (by simp)) (by simp)
      | some u =>
        rcases hO b with z | ⟨ob,xs,z⟩
        ·rw[q] at z;cases z
        ·have z2:=un.frzs b ob _ z
         obtain⟨e1,_⟩:=hok b _ z
         obtain⟨e2,_⟩:=hok' b _ z2
         rw[e] at e1;cases e1
         exact e2
 cases hk:K.lookup a with
 | some o =>
   have e:=KX a o hk
   rw[ha] at e
   cases e
   refine core (fun _=>none) (fun _=>.inl rfl) (.inr ⟨_,vs.toArray,_,hk,rfl,rfl,rfl,by rw[List.size_toArray,lenV];exact hl,by simpa using rv⟩) (fun b u z=>by have z':(none:Option HO)=some u:=z;cases z') (fun b z=>absurd rfl z) fun z=>absurd rfl z
 | none =>
   refine core (fun b=>if b=a then some (.frz { cls:=.type "list",data:=.seq vs.toArray } (.lst (ns.map V.int))) else none) (fun b=>?_) (.inl (.inr ⟨{ cls:=.type "list",data:=.seq vs.toArray },if_pos rfl⟩)) (fun b u z=>?_) (fun b z=>?_) fun _=>hk
   ·by_cases hb:b=a
    ·exact .inr ⟨_,_,if_pos hb⟩
    ·exact .inl (if_neg hb)
   ·by_cases hb:b=a
    ·have z':=(if_pos hb).symm.trans z
     cases z'
     subst hb
     exact⟨ha,by rw[List.length_map];exact hl,vs,_,rv,ha⟩
    ·have z':=(if_neg hb).symm.trans z
     cases z'
   ·by_cases hb:b=a
    ·exact hb
    ·exact absurd (if_neg hb) z
end L2
namespace L2
open PySem PySem.Spec PyProof.Rows
noncomputable abbrev KOf {K:PySem.W.Frag} {h:Heap} (_:K.In h):PySem.W.Frag:=K
theorem walk_of{l:PySem.W.OpenLaw}{n k:Nat}{q:Program}{loose:List Str}{XP:(Str->Option Value)->Heap->Prop}{YP:World->Heap->Prop}{d:DefRec}{K:Params->PySem.W.Frag}{CX:World->CXT}{sp:World->Sp}{x:Str}
 (hn:l.most=some n) (hn2:n<=sizeLine) (hdf:d.params.defaults=[]) (hr:Room k callerA)
 (hY:∀(w:World) (h:Heap),YP w h->(K w.params).In h)
 (F:∀(w:World) (mg:Str->Option Value) (fa:Addr) (h:Heap),(K w.params).In h->h.Ns mainGlobals mg->mg d.name=some (.ref fa) ->
   ∃fd:FuncData,(∀(s:Shared) (u:Value),BindsTo s fd ⟨[u],[]⟩ [(x,u)]) /\
    ∀base:Heap,(K w.params).In base->base.Ns mainGlobals mg->FnOk l.prog w (K w.params) mg base (CX w) k fa fd [x] (sp w))
 (hsp:∀(w:World) (H:Hp) (a:Addr) (ns:List Int),ns.length<=n->Only H->SqL (K w.params) H a (ns.map V.int)->sp w [.ref a] H (fun v _=>v = .bl true) fun _ _ _=>False)
 (hCX:∀(w:World) (H:Hp) (s:Shared) (e:Value) (s':Shared),CX w [] H s (fun _ _ _=>False) e s'->False) :
 PySem.W.WalkO q loose XP YP l.row.toRowW d [] (fun f vs=>PySem.call f vs):=by
 refine Att.attach_call hn hdf fun w s₀ s₁ mg mb fa o pm cd doc a vs ns G Y ho hd hcd hmg hobj hints hlen hg=>?_
 have KX:=hY w _ Y
 obtain⟨fd,hb,hF⟩:=F w mg fa _ KX G.T.g hmg
 exact x2p KX G.T.g G.T.b G.T.builtins G.T.nolimit hg hobj hints (Nat.le_trans hlen hn2) hr hF hb (fun H hO hS=>hsp w H a ns hlen hO hS) fun H e s'=>hCX w H s₁ e s'
end L2
/- THE LAST THEOREM (shape;LID,My.* are yours):
   My.Adr: a structure of the addresses that your layer names (classes,functions);My.Txt K t: a structure (Prop) of the equations over K;
   My.txt_mk:{K} {implicit addresses ..} (e1:nsIn K mainGlobals "law"=some (some (.ref f))) (e2:K.lookup f=some ⟨oc,od,.func (fnOf "law" "law" params body scope dV kV doc pm an cdv ct),sl⟩) (e3:codeIn K cdv "law"=true) ..:∃t,My.Txt K t
set_option maxRecDepth 100000 in
set_option maxHeartbeats 0 in
theorem PySem.Challenge.cw_LID_holds : PySem.Challenge.rw_LID.Holds := by
 w_on;o_law;k_head;(case hw=>w_witness2)
 k_fill
 refine L2.walk_of (l:=PySem.Challenge.rw_LID) (n:=63) (k:=40) (x:="script") (CX:=fun w=>..) (sp:=fun _=>My.sp_law) rfl (by decide) rfl ⟨rfl,by decide,by decide⟩ (fun w h Y=>PySem.W.kIn_of Y) ?F ?S ?C
 case F =>
  intro w mg fa h KX G hmg
  have T:∃t,My.Txt (L2.KOf KX) t:=by
   dsimp only[L2.KOf]                          -- K must stand as «<heap const> w.params» for k_is
   refine' My.txt_mk ?e1 ?e2 ?e3 ..
   (case e1=>PySem.W.k_is)                    -- in the order: a name->its address->its object->its parts
   (case e2=>PySem.W.k_is)
   ..
  obtain⟨t,T⟩:=T
  have e0:=hmg.symm.trans (PySem.W.mg_of KX G T.law)
  cases e0                                       -- fa is the law's own address
  exact⟨_,fun s u=>.of_eq rfl,fun base kb nb=>My.law_fn T kb nb⟩     -- if «.of_eq rfl» comes too early: refine' ⟨_,?b,fun base kb nb=>My.law_fn T kb nb⟩;exact fun s u=>.of_eq rfl
 case S=>exact fun w H a ns hl hO hS=>..
 case C=>exact ..
(the tactic k_is has no namespace: write k_is) -/
namespace L2
open PySem PySem.Spec PyProof.Rows
noncomputable def z9m(s:Stmt):Arguments:=match s with
 | .FunctionDef _ a _ _ _ _ _ _ _ _=>a
 | _=>{ posonlyargs:=[],args:=[],vararg:=none,kwonlyargs:=[],kw_defaults:=[],kwarg:=none,defaults:=[] }
noncomputable def z3i(s:Stmt):List Stmt:=match s with
 | .FunctionDef _ _ b _ _ _ _ _ _ _=>b
 | _=>[]
noncomputable def z0g(s:Stmt):Scope:=match s with
 | .FunctionDef _ _ _ _ _ _ sc _ _ _=>sc
 | _=>{ kind:=.function,names:=[],isGenerator:=false,isCoroutine:=false }
noncomputable abbrev CX0:CXT:=fun _ _ _ _ _ _=>False
structure Fun (K:PySem.W.Frag) (x qual:Str) (st:Stmt) (f:Addr) (fd:FuncData):Prop where
 ex:∃(oc:Value) (od:Option Addr) (kV doc pm:Value) (an:Option Addr) (cdv ct:Value) (osl:Array (Option Value)),
  fd=PySem.W.fnOf x qual (z9m st) (z3i st) (z0g st) .none kV doc pm an cdv ct/\K.lookup f=some ⟨oc,od,.func fd,osl⟩/\PySem.W.codeIn K cdv qual=true
 kp:PySem.W.keepIn K (.ref f)=true
section
variable {P:Program}{w:World}{K:PySem.W.Frag}{mg:Str->Option Value}{base:Heap}
theorem Fun.ok{x qual:Str}{st:Stmt}{f:Addr}{fd:FuncData}{N ps:List Str}{k:Nat}{sp:Sp}(F:Fun K x qual st f fd)(S:FnScope N ps (z0g st))(len:∀vs H Q E,sp vs H Q E->vs.length=ps.length)
 (hbody:∀(cdv:Value) (A:Around) (outer:List Env) (s:Shared) (H:Hp) (vs:List V) (Q:VK) (E:XK),Room k (A.deeper (envOfC qual (z0g st) s.heap.objs.size f cdv))->sp vs H Q E ->
   ∃t,PSs (cxOf CX0 P w K mg base N qual (z0g st) f cdv A outer s H E).nox (z3i st) t/\t { nx:=fun _ H'=>Q .non H',rt:=Q } (start N vs) H):FnOk P w K mg base CX0 (k+1) f fd ps sp:=by
 obtain⟨oc,od,kV,doc,pm,an,cdv,ct,osl,rfl,lk,hcd⟩:=F.ex
 refine y7u lk hcd S len fun A outer s H vs Q E hr hsp=>?_
 obtain⟨t,h,q⟩:=hbody cdv A outer s H vs Q E hr hsp
 exact⟨t,h.nox,q⟩
theorem Fun.binds{x qual:Str}{st:Stmt}{f:Addr}{fd:FuncData}{ps:List Str}(F:Fun K x qual st f fd)
 (h:∀(kV doc pm:Value) (an:Option Addr) (cdv ct:Value) (us:List Value),us.length=ps.length->bindArgs (PySem.W.fnOf x qual (z9m st) (z3i st) (z0g st) .none kV doc pm an cdv ct) ⟨us,[]⟩=pure (ps.zip us)):z6h K fd ps []:=by
 obtain⟨oc,od,kV,doc,pm,an,cdv,ct,osl,rfl,lk,hcd⟩:=F.ex
 exact .all (h kV doc pm an cdv ct)
end
theorem y8k{n:Nat}(h:n<=1000):n<sizeLine:=Nat.lt_of_le_of_lt h (by decide)
section
variable {X:Cx}
end
noncomputable def Same(H H':Hp):Prop:=∀b o,H b=some o->H' b=some o
theorem Same.refl(H:Hp):Same H H:=fun _ _ h=>h
theorem Same.trans{H H1 H2:Hp}(a:Same H H1)(b:Same H1 H2):Same H H2:=fun c o h=>b c o (a c o h)
theorem Same.free{H H':Hp}(e:Same H H'){l:Addr}(h:H' l=Option.none):H l=Option.none:=by
 cases q:H l with
 | none=>rfl
 | some o =>
   rw[e l o q] at h
   cases h
theorem Same.seq{K:PySem.W.Frag}{H H':Hp}{a:Addr}{xs:List V}(e:Same H H')(h:SqL K H a xs):SqL K H' a xs:=by
 rcases h with (h | ⟨o,h⟩) | h
 ·exact .inl (.inl (e _ _ h))
 ·exact .inl (.inr ⟨o,e _ _ h⟩)
 ·exact .inr h
end L2
namespace L3
open PySem
noncomputable section
inductive Er where
 | noPrime | noNumber | noProgram | tooLong | lossy | noText
 deriving DecidableEq
noncomputable def Er.nm:Er->Str
 | .noPrime=>"NoPrime" | .noNumber=>"NoNumber" | .noProgram=>"NoProgram" | .tooLong=>"TooLong" | .lossy=>"Lossy" | .noText=>"NoText"
inductive D where
 | non | bl (b:Bool) | int (i:Int) | str (x:Str) | tup (ds:List D) | lst (ds:List D) | dct | exc (c:Er)
mutual
noncomputable def D.noL:D->Bool
 | .lst _=>false
 | .dct=>false
 | .tup ds=>D.noLs ds
 | _=>true
noncomputable def D.noLs:List D->Bool
 | []=>true
 | d::ds=>d.noL&&D.noLs ds
end
theorem z6u:D.noLs []=true:=by unfold D.noLs;rfl
theorem y5w:∀ds:List D,D.noLs ds=ds.all D.noL
 | []=>by unfold D.noLs;rfl
 | d::ds=>by unfold D.noLs;rw[y5w ds];rfl
theorem z3t(i:Int):D.noL (.int i)=true:=by simp[D.noL]
theorem z5t(i:Bool):D.noL (.bl i)=true:=by simp[D.noL]
theorem z8y(i:Str):D.noL (.str i)=true:=by simp[D.noL]
theorem z8z:D.noL .non=true:=by simp[D.noL]
theorem x6a(ds:List D):D.noL (.tup ds)=D.noLs ds:=by simp[D.noL]
theorem y4p{ds:List D}(h:∀d∈ds,d.noL=true):D.noLs ds=true:=by rw[y5w,List.all_eq_true];exact h
theorem x2j{α:Type}{f:α->D}{l:List α}(h:∀x∈l,(f x).noL=true):D.noLs (l.map f)=true:=y4p fun d hd=>by
 obtain⟨x,hx,rfl⟩:=List.mem_map.mp hd;exact h x hx
theorem z1n(ns:List Int):D.noLs (ns.map D.int)=true:=x2j fun _ _=>z3t _
theorem z4p(ns:List Int):D.noL (.tup (ns.map D.int))=true:=by rw[x6a];exact z1n ns
inductive R (α:Type) where
 | no | ok (a:α) | er (c:Er)
noncomputable def R.bind{α β:Type}(r:R α)(k:α->R β):R β:=match r with
 | .no=>.no
 | .ok a=>k a
 | .er c=>.er c
noncomputable instance:Monad R where
 pure:=R.ok
 bind:=R.bind
@[simp] theorem R.bind_no {α β:Type} (k:α->R β):(R.no>>=k)=R.no:=rfl
@[simp] theorem R.bind_ok {α β:Type} (a:α) (k:α->R β):(R.ok a>>=k)=k a:=rfl
@[simp] theorem R.bind_er {α β:Type} (c:Er) (k:α->R β):(R.er c>>=k)=R.er c:=rfl
@[simp] theorem R.pure_ok {α:Type} (a:α):(pure a:R α)=R.ok a:=rfl
theorem R.left{α β:Type}{r:R α}{k:α->R β}(h:(r>>=k) ≠ .no):r ≠ .no:=fun e=>h (by rw[e];rfl)
theorem R.next{α β:Type}{r:R α}{k:α->R β}{a:α}(h:(r>>=k) ≠ .no)(e:r = .ok a):k a ≠ .no:=by
 rw[e] at h;exact h
theorem R.step{α β:Type}{r:R α}{a:α}(e:r = .ok a)(k:α->R β):(r>>=k)=k a:=by rw[e];rfl
theorem R.stop{α β:Type}{r:R α}{c:Er}(e:r = .er c)(k:α->R β):(r>>=k) = .er c:=by rw[e];rfl
noncomputable def R.guard{α:Type}(p:Prop)(r:R α):R α:=@ite _ p (Classical.propDecidable p) r .no
theorem R.guard_pos{α:Type}{p:Prop}{r:R α}(h:p):R.guard p r=r:=if_pos h
theorem R.guard_ne{α:Type}{p:Prop}{r:R α}(h:R.guard p r ≠ .no):p/\R.guard p r=r:=by
 unfold R.guard at h ⊢
 by_cases q:p
 ·exact⟨q,if_pos q⟩
 ·rw[if_neg q] at h;exact absurd rfl h
theorem z4f{α:Type}{r:R α}:R.guard True r=r:=R.guard_pos trivial
theorem z0h{α:Type}{p:Prop}{r:R α}(h:p):R.guard p r=r:=R.guard_pos h
inductive En where
 | no | ro (d:D) | own (ds:List D)
noncomputable abbrev G:=List En
noncomputable def lk(Γ:G)(i:Nat):R D:=match Γ[i]? with
 | some (.ro d)=>.ok d
 | some (.own ds)=>.ok (.lst ds)
 | _=>.no
noncomputable def lkr(Γ:G)(i:Nat):R D:=match Γ[i]? with
 | some (.ro d)=>.ok d
 | _=>.no
theorem x9x{Γ:G}{i:Nat}(h:lk Γ i ≠ .no):∃d,lk Γ i = .ok d:=by
 cases e:lk Γ i with
 | no=>exact absurd e h
 | ok d=>exact⟨d,rfl⟩
 | er c =>
   unfold lk at e
   cases q:Γ[i]? with
   | none=>rw[q] at e;cases e
   | some en=>rw[q] at e;cases en<;>cases e
theorem x8g{Γ:G}{i:Nat}(h:lkr Γ i ≠ .no):∃d,lkr Γ i = .ok d:=by
 cases e:lkr Γ i with
 | no=>exact absurd e h
 | ok d=>exact⟨d,rfl⟩
 | er c =>
   unfold lkr at e
   cases q:Γ[i]? with
   | none=>rw[q] at e;cases e
   | some en=>rw[q] at e;cases en<;>cases e
theorem z2p(d:D)(Γ:G):lk (En.ro d::Γ) 0 = .ok d:=rfl
theorem z5u(ds:List D)(Γ:G):lk (En.own ds::Γ) 0 = .ok (.lst ds):=rfl
theorem z1b(e:En)(Γ:G)(i:Nat):lk (e::Γ) (i+1)=lk Γ i:=rfl
theorem y2h(d:D)(Γ:G):lkr (En.ro d::Γ) 0 = .ok d:=rfl
theorem z6v(e:En)(Γ:G)(i:Nat):lkr (e::Γ) (i+1)=lkr Γ i:=rfl
noncomputable def gV(i:Nat):G->R D:=fun Γ=>lk Γ i
noncomputable def gVr(i:Nat):G->R D:=fun Γ=>lkr Γ i
noncomputable def gC(d:D):G->R D:=fun _=>.ok d
noncomputable def gNL(g:G->R D):G->R D:=fun Γ=>g Γ>>=fun d=>R.guard (d.noL=true) (.ok d)
noncomputable def gL(g:G->R (List D)):G->R D:=fun Γ=>g Γ>>=fun ds=>.ok (.lst ds)
noncomputable def gBin(g:D->D->R D)(ga gb:G->R D):G->R D:=fun Γ=>ga Γ>>=fun x=>gb Γ>>=fun y=>g x y
noncomputable def asB(d:D):R Bool:=match d with
 | .bl b=>.ok b
 | _=>.no
theorem y6n{d:D}(h:asB d ≠ .no):∃b,d = .bl b/\asB d = .ok b:=by
 cases d<;>first | exact⟨_,rfl,rfl⟩ | exact absurd rfl h
theorem z7x(b:Bool):asB (.bl b) = .ok b:=rfl
noncomputable def gT(g:G->R D):G->R Bool:=fun Γ=>g Γ>>=asB
noncomputable def gAnd(ga gb:G->R Bool):G->R Bool:=fun Γ=>ga Γ>>=fun k=>if k=true then gb Γ else .ok false
noncomputable def gOr(ga gb:G->R Bool):G->R Bool:=fun Γ=>ga Γ>>=fun k=>if k=true then .ok true else gb Γ
noncomputable def gNot(ga:G->R Bool):G->R Bool:=fun Γ=>ga Γ>>=fun k=>.ok (!k)
noncomputable def z4w(ga gb:G->R D):G->R D:=fun Γ=>ga Γ>>=fun d=>asB d>>=fun k=>if k=true then gb Γ else .ok (.bl false)
noncomputable def gOrV(ga gb:G->R D):G->R D:=fun Γ=>ga Γ>>=fun d=>asB d>>=fun k=>if k=true then .ok (.bl true) else gb Γ
noncomputable def y2v(ga:G->R D):G->R D:=fun Γ=>ga Γ>>=fun d=>asB d>>=fun k=>.ok (.bl (!k))
noncomputable def dNeg(d:D):R D:=match d with | .int i=>.ok (.int (-i)) | _=>.no
noncomputable def gNeg(ga:G->R D):G->R D:=fun Γ=>ga Γ>>=dNeg
noncomputable def gNil:G->R (List D):=fun _=>.ok []
noncomputable def gCons(g:G->R D)(gs:G->R (List D)):G->R (List D):=fun Γ=>g Γ>>=fun d=>gs Γ>>=fun ds=>.ok (d::ds)
noncomputable def y7r(ns:List Int):G->R (List D):=fun _=>.ok (ns.map D.int)
noncomputable def gTup(gs:G->R (List D)):G->R D:=fun Γ=>gs Γ>>=fun ds=>R.guard (ds.length<=1000) (.ok (.tup ds))
noncomputable def gLst(gs:G->R (List D)):G->R (List D):=fun Γ=>gs Γ>>=fun ds=>R.guard (ds.length<=1000/\D.noLs ds=true) (.ok ds)
noncomputable def y1m(i:Int):Prop:=-18446744073709551616<i/\i<18446744073709551616
noncomputable instance (i:Int):Decidable (y1m i):=by unfold y1m;exact inferInstance
noncomputable def z6c(i j:Int):Prop:=y1m i∨y1m j
noncomputable instance (i j:Int):Decidable (z6c i j):=by unfold z6c;exact inferInstance
noncomputable def y6z(j:Int):Prop:=-4611686018427387904<=j/\j<4611686018427387904
noncomputable instance (j:Int):Decidable (y6z j):=by unfold y6z;exact inferInstance
theorem z1s{j:Int}(h:-4611686018427387904<=j/\j<4611686018427387904):y6z j:=h
theorem z3d{j:Int}(h:-18446744073709551616<j/\j<18446744073709551616):y1m j:=h
theorem z5b{i j:Int}(h:y1m i):z6c i j:=.inl h
theorem z5a{i j:Int}(h:y1m j):z6c i j:=.inr h
noncomputable def dAdd(x y:D):R D:=match x,y with
 | .int i,.int j=>.ok (.int (i+j))
 | .tup xs,.tup ys=>R.guard (xs.length+ys.length<=1000) (.ok (.tup (xs++ys)))
 | _,_=>.no
noncomputable def dSub(x y:D):R D:=match x,y with
 | .int i,.int j=>.ok (.int (i-j))
 | _,_=>.no
noncomputable def dMul(x y:D):R D:=match x,y with
 | .int i,.int j=>R.guard (z6c i j) (.ok (.int (i*j)))
 | .tup xs,.int j=>R.guard (0<=j/\j<1000000/\xs.length*j.toNat<=1000) (.ok (.tup (List.replicate j.toNat xs).flatten))
 | _,_=>.no
noncomputable def dDiv(x y:D):R D:=match x,y with
 | .int i,.int j=>R.guard (0<j/\j<1073741824) (.ok (.int (i/j)))
 | _,_=>.no
noncomputable def dMod(x y:D):R D:=match x,y with
 | .int i,.int j=>R.guard (0<j) (.ok (.int (i%j)))
 | _,_=>.no
noncomputable def dPow(x y:D):R D:=match x,y with
 | .int i,.int j=>R.guard (0<=j/\j<=1000000/\i.natAbs<18446744073709551616) (.ok (.int (i^j.toNat)))
 | _,_=>.no
noncomputable def dLt(x y:D):R D:=match x,y with
 | .int i,.int j=>.ok (.bl (decide (i<j)))
 | _,_=>.no
noncomputable def dLe(x y:D):R D:=match x,y with
 | .int i,.int j=>.ok (.bl (decide (i<=j)))
 | _,_=>.no
noncomputable def dGt(x y:D):R D:=match x,y with
 | .int i,.int j=>.ok (.bl (decide (j<i)))
 | _,_=>.no
noncomputable def dGe(x y:D):R D:=match x,y with
 | .int i,.int j=>.ok (.bl (decide (j<=i)))
 | _,_=>.no
noncomputable def sOk(x:Str):Bool:=x.cps.all (·<0x110000)
mutual
noncomputable def D.lay:Nat->D->Bool
 | n+1,.tup ds=>D.lays n ds
 | n+1,.lst ds=>D.lays n ds
 | 0,.tup _=>false
 | 0,.lst _=>false
 | _,.dct=>false
 | _,.exc _=>false
 | _,.str x=>sOk x
 | _,_=>true
noncomputable def D.lays:Nat->List D->Bool
 | _,[]=>true
 | n,d::ds=>D.lay n d&&D.lays n ds
end
theorem D.lays_all(n:Nat):∀ds:List D,D.lays n ds=ds.all (D.lay n)
 | []=>by unfold D.lays;rfl
 | d::ds=>by unfold D.lays;rw[D.lays_all n ds];rfl
theorem z5c(n:Nat)(i:Int):D.lay n (.int i)=true:=by cases n<;>simp[D.lay]
theorem y2l(n:Nat)(i:Bool):D.lay n (.bl i)=true:=by cases n<;>simp[D.lay]
theorem z2m(n:Nat)(x:Str):D.lay n (.str x)=sOk x:=by cases n<;>simp[D.lay]
theorem z9d(n:Nat)(ds:List D):D.lay (n+1) (.tup ds)=ds.all (D.lay n):=by rw[D.lay,D.lays_all]
theorem x6h(n:Nat)(ds:List D):D.lay (n+1) (.lst ds)=ds.all (D.lay n):=by rw[D.lay,D.lays_all]
theorem z5l(n:Nat)(ns:List Int):D.lay (n+1) (.tup (ns.map D.int))=true:=by
 rw[z9d,List.all_map,List.all_eq_true];intro x _;exact z5c n x
mutual
noncomputable def eqD:D->D->Bool
 | .non,y=>(match y with | .non=>true | _=>false)
 | .bl a,y=>(match y with | .bl b=>a==b | .int j=>(if a then 1 else 0)==j | _=>false)
 | .int i,y=>(match y with | .bl b=>i==(if b then 1 else 0) | .int j=>i==j | _=>false)
 | .str x,y=>(match y with | .str z=>x==z | _=>false)
 | .tup xs,y=>(match y with | .tup ys=>eqDs xs ys | _=>false)
 | .lst xs,y=>(match y with | .lst ys=>eqDs xs ys | _=>false)
 | .dct,_=>false
 | .exc _,_=>false
noncomputable def eqDs:List D->List D->Bool
 | [],[]=>true
 | x::xs,y::ys=>eqD x y&&eqDs xs ys
 | [],_::_=>false
 | _::_,[]=>false
end
theorem z9l(i j:Int):eqD (.int i) (.int j)=(i==j):=by rw[eqD]
theorem y3b(i j:Bool):eqD (.bl i) (.bl j)=(i==j):=by rw[eqD]
theorem z5h(i j:Str):eqD (.str i) (.str j)=(i==j):=by rw[eqD]
mutual
noncomputable def D.pl:D->Bool
 | .bl _=>false
 | .dct=>false
 | .exc _=>false
 | .tup ds=>D.pls ds
 | .lst ds=>D.pls ds
 | _=>true
noncomputable def D.pls:List D->Bool
 | []=>true
 | d::ds=>d.pl&&D.pls ds
end
theorem y3z:∀ds:List D,D.pls ds=ds.all D.pl
 | []=>by unfold D.pls;rfl
 | d::ds=>by unfold D.pls;rw[y3z ds];rfl
theorem x3y(i:Int):D.pl (.int i)=true:=by simp[D.pl]
theorem x3w(ds:List D):D.pl (.tup ds)=ds.all D.pl:=by rw[D.pl,y3z]
theorem x7q(ds:List D):D.pl (.lst ds)=ds.all D.pl:=by rw[D.pl,y3z]
theorem x5l(ns:List Int):D.pl (.tup (ns.map D.int))=true:=by
 rw[x3w,List.all_map,List.all_eq_true];intro x _;exact x3y x
mutual
theorem y1n:∀(x y:D),x.pl=true->y.pl=true->(eqD x y=true↔x=y)
 | .non,y,_,hy=>by cases y<;>simp_all [eqD,D.pl]
 | .bl _,y,hx,hy=>by simp[D.pl] at hx
 | .int i,y,_,hy=>by cases y<;>simp_all [eqD,D.pl]
 | .str i,y,_,hy=>by cases y<;>simp_all [eqD,D.pl]
 | .dct,y,hx,hy=>by simp[D.pl] at hx
 | .exc _,y,hx,hy=>by simp[D.pl] at hx
 | .tup xs,y,hx,hy=>by
   cases y with
   | tup ys=>rw[eqD,eqDs_iff xs ys (by simpa [D.pl] using hx) (by simpa [D.pl] using hy)];simp
   | _=>simp_all [eqD,D.pl]
 | .lst xs,y,hx,hy=>by
   cases y with
   | lst ys=>rw[eqD,eqDs_iff xs ys (by simpa [D.pl] using hx) (by simpa [D.pl] using hy)];simp
   | _=>simp_all [eqD,D.pl]
theorem eqDs_iff:∀(xs ys:List D),D.pls xs=true->D.pls ys=true->(eqDs xs ys=true↔xs=ys)
 | [],[],_,_=>by simp[eqDs]
 | [],y::ys,_,_=>by simp[eqDs]
 | x::xs,[],_,_=>by simp[eqDs]
 | x::xs,y::ys,hx,hy=>by
   have hx':x.pl=true/\D.pls xs=true:=by simpa [D.pls] using hx
   have hy':y.pl=true/\D.pls ys=true:=by simpa [D.pls] using hy
   rw[eqDs,Bool.and_eq_true,y1n x y hx'.1 hy'.1,eqDs_iff xs ys hx'.2 hy'.2];simp
end
theorem z7a{x:D}(h:x.pl=true):eqD x x=true:=(y1n x x h h).mpr rfl
theorem x6w{x y:D}(hx:x.pl=true)(hy:y.pl=true){p:Prop}[Decidable p](h:x=y↔p):eqD x y=decide p:=by
 by_cases q:p
 ·rw[decide_eq_true q];exact(y1n x y hx hy).mpr (h.mpr q)
 ·rw[decide_eq_false q]
  cases e:eqD x y with
  | false=>rfl
  | true=>exact absurd (h.mp ((y1n x y hx hy).mp e)) q
noncomputable def dEq(x y:D):R D:=R.guard (D.lay 40 x=true/\D.lay 40 y=true) (.ok (.bl (eqD x y)))
noncomputable def dNe(x y:D):R D:=R.guard (D.lay 40 x=true/\D.lay 40 y=true) (.ok (.bl (!eqD x y)))
noncomputable def ixN(n:Nat)(i:Int):Option Nat:=if 0<=i then (if i<n then some i.toNat else none) else if -(n:Int)<=i then some (i+n).toNat else none
noncomputable def atI{α:Type}(xs:List α)(i:Int):Option α:=(ixN xs.length i).bind fun j=>xs[j]?
theorem z4k{α:Type}{ds:List α}(i:Nat):atI ds (i:Int)=ds[i]?:=by
 unfold atI ixN
 rw[if_pos (by lia)]
 by_cases h:(i:Int)<ds.length
 ·rw[if_pos h];simp
 ·rw[if_neg h]
  have:ds.length<=i:=by lia
  rw[List.getElem?_eq_none this];rfl
theorem x1g{α:Type}{ds:List α}{i:Int}(h:0<=i):atI ds i=ds[i.toNat]?:=by
 obtain⟨n,rfl⟩:∃n:Nat,i=(n:Int):=⟨i.toNat,by lia⟩
 rw[z4k];rfl
theorem x7c{α:Type}{ds:List α}{i:Int}(h:i<0)(h2:-(ds.length:Int)<=i):atI ds i=ds[(i+ds.length).toNat]?:=by
 unfold atI ixN
 rw[if_neg (by lia),if_pos h2];rfl
theorem z3x{α:Type}(a:α)(ds:List α):atI (a::ds) 0=some a:=z4k 0
theorem z5o{α:Type}(a b:α)(ds:List α):atI (a::b::ds) 1=some b:=z4k 1
theorem z5n{α:Type}(a b c:α)(ds:List α):atI (a::b::c::ds) 2=some c:=z4k 2
theorem z4j{α:Type}(a b c d:α)(ds:List α):atI (a::b::c::d::ds) 3=some d:=z4k 3
noncomputable def dIx(x y:D):R D:=match x,y with
 | .tup ds,.int i=>(match atI ds i with | some d=>.ok d | none=>.no)
 | .lst ds,.int i=>(match atI ds i with | some d=>.ok d | none=>.no)
 | _,_=>.no
noncomputable def sIx(n d:Nat):Option Int->Nat
 | none=>d
 | some v=>if v<0 then (v+(n:Int)).toNat else min v.toNat n
theorem sIx_none(n d:Nat):sIx n d none=d:=rfl
theorem sIx_nat(n d k:Nat):sIx n d (some (k:Int))=min k n:=by
 show(if (k:Int)<0 then ((k:Int)+(n:Int)).toNat else min (k:Int).toNat n)=min k n
 rw[if_neg (by lia),Int.toNat_natCast]
noncomputable def cutL{α:Type}(xs:List α)(lo hi:Option Int):List α:=(xs.drop (sIx xs.length 0 lo)).take (sIx xs.length xs.length hi-sIx xs.length 0 lo)
noncomputable def gON:G->R (Option Int):=fun _=>.ok none
noncomputable def dOS(d:D):R (Option Int):=match d with | .int i=>.ok (some i) | _=>.no
noncomputable def gOS(g:G->R D):G->R (Option Int):=fun Γ=>g Γ>>=dOS
noncomputable def dCut(d:D)(lo hi:Option Int):R D:=match d with
 | .tup xs=>.ok (.tup (cutL xs lo hi))
 | .lst xs=>.ok (.lst (cutL xs lo hi))
 | _=>.no
noncomputable def gSl(ga:G->R D)(lo hi:G->R (Option Int)):G->R D:=fun Γ=>ga Γ>>=fun d=>lo Γ>>=fun l=>hi Γ>>=fun h=>dCut d l h
noncomputable def y3d(d:D)(lo hi:Option Int):R (List D):=match d with
 | .lst xs=>R.guard (D.noLs (cutL xs lo hi)=true) (.ok (cutL xs lo hi))
 | _=>.no
noncomputable def gSlF(ga:G->R D)(lo hi:G->R (Option Int)):G->R (List D):=fun Γ=>ga Γ>>=fun d=>lo Γ>>=fun l=>hi Γ>>=fun h=>y3d d l h
theorem x3e{α β:Type}(f:α->β)(xs:List α)(lo hi:Option Int):cutL (xs.map f) lo hi=(cutL xs lo hi).map f:=by
 unfold cutL;rw[List.length_map,List.map_take,List.map_drop]
theorem z7c{α:Type}(xs:List α)(k:Nat):cutL xs (some (k:Int)) none=xs.drop k:=by
 unfold cutL
 rw[sIx_none,sIx_nat]
 by_cases h:k<=xs.length
 ·rw[Nat.min_eq_left h,List.take_of_length_le (by rw[List.length_drop];lia)]
 ·rw[Nat.min_eq_right (by lia),List.drop_length,List.drop_of_length_le (by lia)];simp
theorem y5d{α:Type}(xs:List α)(k:Nat):cutL xs none (some (k:Int))=xs.take k:=by
 unfold cutL
 rw[sIx_none,sIx_nat,Nat.sub_zero,List.drop_zero]
 by_cases h:k<=xs.length
 ·rw[Nat.min_eq_left h]
 ·rw[Nat.min_eq_right (by lia),List.take_length,List.take_of_length_le (by lia)]
inductive Cl where
 | noPrime | noNumber | noProgram | tooLong | lossy | noText | longError | valueError
noncomputable def z0i(g:List D->R D)(gs:G->R (List D)):G->R D:=fun Γ=>gs Γ>>=g
noncomputable def dLen(ds:List D):R D:=match ds with
 | [.tup xs]=>.ok (.int xs.length)
 | [.lst xs]=>.ok (.int xs.length)
 | _=>.no
noncomputable def z2v(ds:List D):R D:=match ds with
 | [.tup xs]=>.ok (.tup xs)
 | [.lst xs]=>.ok (.tup xs)
 | _=>.no
noncomputable def dMin(ds:List D):R D:=match ds with
 | [.int i,.int j]=>.ok (.int (if j<i then j else i))
 | _=>.no
noncomputable def ints?:List D->Option (List Int)
 | []=>some []
 | .int i::ds=>(ints? ds).map (i::·)
 | _::_=>none
theorem ints?_some:∀{ds:List D} {ns:List Int},ints? ds=some ns->ds=ns.map D.int
 | [],ns,h=>by unfold ints? at h;cases h;rfl
 | d::ds,ns,h=>by
   cases d with
   | int i =>
     unfold ints? at h
     cases q:ints? ds with
     | none=>rw[q] at h;cases h
     | some ms=>rw[q] at h;cases h;rw[ints?_some q];rfl
   | _=>unfold ints? at h;cases h
theorem ints?_map:∀ns:List Int,ints? (ns.map D.int)=some ns
 | []=>rfl
 | n::ns=>by show(ints? (ns.map D.int)).map (n::·)=_;rw[ints?_map ns];rfl
noncomputable def bools?:List D->Option (List Bool)
 | []=>some []
 | .bl i::ds=>(bools? ds).map (i::·)
 | _::_=>none
theorem bools?_some:∀{ds:List D} {ns:List Bool},bools? ds=some ns->ds=ns.map D.bl
 | [],ns,h=>by unfold bools? at h;cases h;rfl
 | d::ds,ns,h=>by
   cases d with
   | bl i =>
     unfold bools? at h
     cases q:bools? ds with
     | none=>rw[q] at h;cases h
     | some ms=>rw[q] at h;cases h;rw[bools?_some q];rfl
   | _=>unfold bools? at h;cases h
theorem bools?_map:∀ns:List Bool,bools? (ns.map D.bl)=some ns
 | []=>rfl
 | n::ns=>by show(bools? (ns.map D.bl)).map (n::·)=_;rw[bools?_map ns];rfl
noncomputable def dAny(ds:List D):R D:=match ds with
 | [.lst xs]=>(match bools? xs with | some bs=>.ok (.bl (bs.any (fun b=>b))) | none=>.no)
 | _=>.no
theorem z7b(ns:List Bool):dAny [.lst (ns.map D.bl)] = .ok (.bl (ns.any fun b=>b)):=by simp only[dAny,bools?_map]
noncomputable def dAll(ds:List D):R D:=match ds with
 | [.lst xs]=>(match bools? xs with | some bs=>.ok (.bl (bs.all (fun b=>b))) | none=>.no)
 | _=>.no
theorem z3z(ns:List Bool):dAll [.lst (ns.map D.bl)] = .ok (.bl (ns.all fun b=>b)):=by simp only[dAll,bools?_map]
noncomputable def noEr(φ:List D->R D):List D->R D:=fun ds=>match φ ds with
 | .ok d=>.ok d
 | _=>.no
theorem y9m{φ:List D->R D}{ds:List D}(h:noEr φ ds ≠ .no):∃d,φ ds = .ok d/\noEr φ ds = .ok d:=by
 unfold noEr at h ⊢
 cases q:φ ds with
 | ok d=>exact⟨d,rfl,rfl⟩
 | no=>rw[q] at h;exact absurd rfl h
 | er c=>rw[q] at h;exact absurd rfl h
noncomputable def z1v(φ:List D->R (List D))(gs:G->R (List D)):G->R (List D):=fun Γ=>gs Γ>>=fun ds=>φ ds>>=fun es=>R.guard (D.noLs es=true) (.ok es)
noncomputable def y5b(d:D):R (List D):=match d with
 | .tup ds=>R.guard (D.noLs ds=true) (.ok ds)
 | .lst ds=>R.guard (D.noLs ds=true) (.ok ds)
 | _=>.no
noncomputable def z4v(g:G->R D):G->R (List D):=fun Γ=>g Γ>>=y5b
noncomputable def gCat(ga gb:G->R (List D)):G->R (List D):=fun Γ=>ga Γ>>=fun x=>gb Γ>>=fun y=>R.guard (x.length+y.length<=1000) (.ok (x++y))
noncomputable def y7z(x y:D):R (List D):=match x,y with
 | .lst xs,.lst ys=>R.guard (xs.length+ys.length<=1000/\D.noLs (xs++ys)=true) (.ok (xs++ys))
 | _,_=>.no
noncomputable def z7k(ga gb:G->R D):G->R (List D):=fun Γ=>ga Γ>>=fun x=>gb Γ>>=fun y=>y7z x y
noncomputable def D.ty:D->String
 | .non=>"NoneType"
 | .bl _=>"bool"
 | .int _=>"int"
 | .str _=>"str"
 | .tup _=>"tuple"
 | .lst _=>"list"
 | .dct=>"dict"
 | .exc _=>""
noncomputable def D.noX:D->Bool
 | .exc _=>false
 | _=>true
noncomputable def dIsi(f:String->Bool)(d:D):R D:=match d with
 | .exc _=>.no
 | d=>.ok (.bl (f d.ty))
noncomputable def gIsi(f:String->Bool)(g:G->R D):G->R D:=fun Γ=>g Γ>>=dIsi f
theorem x6x{f:String->Bool}{d:D}(h:dIsi f d ≠ .no):d.noX=true/\dIsi f d = .ok (.bl (f d.ty)):=by
 cases d<;>first | exact⟨rfl,rfl⟩ | exact absurd rfl h
noncomputable def z5y(t:String):Bool:=t=="int"||t=="bool"
noncomputable def z4b(t:String):Bool:=t=="bool"
noncomputable def z3y(t:String):Bool:=t=="tuple"
noncomputable def z5x(t:String):Bool:=t=="str"
noncomputable def dSeq(d:D):R (List D):=match d with
 | .tup ds=>.ok ds
 | .lst ds=>.ok ds
 | _=>.no
noncomputable def gSeq(g:G->R D):G->R (List D):=fun Γ=>g Γ>>=dSeq
noncomputable def z4g(g:G->R D):G->R (List D):=fun Γ=>g Γ>>=fun d=>dSeq d>>=fun ds=>R.guard (D.noLs ds=true) (.ok ds)
noncomputable def z3e(lo:Int)(n:Nat):List D:=(List.range n).map fun(i:Nat)=>D.int (lo+(i:Int))
theorem z0t(lo:Int)(n:Nat):(z3e lo n).length=n:=by unfold z3e;simp
theorem z7f(lo:Int)(n i:Nat)(h:i<n):(z3e lo n)[i]? = some (.int (lo+(i:Int))):=by unfold z3e;simp[h]
theorem z3r(lo:Int):z3e lo 0=[]:=rfl
noncomputable def z7e(lo:Int)(step:Int)(n:Nat):List D:=(List.range n).map fun(i:Nat)=>D.int (lo+step*(i:Int))
noncomputable def z6m(lo hi step:Int):Nat:=((hi-lo+step-1)/step).toNat
noncomputable def y1j(g:G->R D):G->R (List D):=fun Γ=>g Γ>>=fun d=>match d with
 | .int j=>R.guard (y6z j) (.ok (z3e 0 j.toNat))
 | _=>.no
noncomputable def y1i(ga gb:G->R D):G->R (List D):=fun Γ=>ga Γ>>=fun d=>gb Γ>>=fun d'=>match d,d' with
 | .int i,.int j=>R.guard (y6z i/\y6z j) (.ok (z3e i (j-i).toNat))
 | _,_=>.no
noncomputable def y4v(ga gb gc:G->R D):G->R (List D):=fun Γ=>ga Γ>>=fun d=>gb Γ>>=fun d'=>gc Γ>>=fun d''=>match d,d',d'' with
 | .int i,.int j,.int k=>R.guard ((-1073741824<=i/\i<1073741824)/\(-1073741824<=j/\j<1073741824)/\0<k/\k<1073741824) (.ok (z7e i k (z6m i j k)))
 | _,_,_=>.no
noncomputable def z1k(f:D->R (Option D)):List D->List D->R (List D)
 | [],acc=>.ok acc
 | d::r,acc=>match f d with
   | .ok (some e)=>z1k f r (acc++[e])
   | .ok none=>z1k f r acc
   | _=>.no
theorem z4i(f:D->R (Option D))(acc:List D):z1k f [] acc = .ok acc:=rfl
theorem z9t(f:D->R (Option D))(d:D)(r acc:List D):z1k f (d::r) acc=match f d with
 | .ok (some e)=>z1k f r (acc++[e])
 | .ok none=>z1k f r acc
 | _=>.no:=rfl
theorem z9s{f:D->R (Option D)}:∀{ds acc:List D},z1k f ds acc ≠ .no->∃es,z1k f ds acc = .ok es
 | [],acc,_=>⟨acc,rfl⟩
 | d::r,acc,h=>by
   unfold z1k at h ⊢
   cases q:f d with
   | no=>rw[q] at h;exact absurd rfl h
   | er c=>rw[q] at h;exact absurd rfl h
   | ok o =>
     rw[q] at h
     cases o with
     | none=>exact z9s h
     | some e=>exact z9s h
theorem z1u{α:Type}{f:D->R (Option D)}{k h:α->D}{l:List α}(q:∀x∈l,f (k x) = .ok (some (h x))):z1k f (l.map k) [] = .ok (l.map h):=by
 suffices H:∀(l:List α) (acc:List D),(∀x∈l,f (k x) = .ok (some (h x)))->z1k f (l.map k) acc = .ok (acc++l.map h) by
  have:=H l [] q;simpa using this
 intro l
 induction l with
 | nil=>intro acc _;simp[z1k]
 | cons x l ih =>
   intro acc q
   rw[List.map_cons,z9t,q x List.mem_cons_self]
   simp only
   rw[ih _ fun y hy=>q y (List.mem_cons_of_mem _ hy)]
   simp
theorem y0c{α:Type}{f:D->R (Option D)}{k:α->D}{h:α->Option D}{l:List α}(q:∀x∈l,f (k x) = .ok (h x)):z1k f (l.map k) [] = .ok (l.filterMap h):=by
 suffices H:∀(l:List α) (acc:List D),(∀x∈l,f (k x) = .ok (h x))->z1k f (l.map k) acc = .ok (acc++l.filterMap h) by
  have:=H l [] q;simpa using this
 intro l
 induction l with
 | nil=>intro acc _;simp[z1k]
 | cons x l ih =>
   intro acc q
   rw[List.map_cons,z9t,q x List.mem_cons_self]
   cases e:h x with
   | none=>simp only;rw[ih _ fun y hy=>q y (List.mem_cons_of_mem _ hy)];simp[e]
   | some z=>simp only;rw[ih _ fun y hy=>q y (List.mem_cons_of_mem _ hy)];simp[e]
noncomputable def fElt(ge:G->R D):D->G->R (Option D):=fun d Γ=>ge (.ro d::Γ)>>=fun e=>.ok (some e)
noncomputable def z8c(gc:G->R Bool)(ge:G->R D):D->G->R (Option D):=fun d Γ=>gc (.ro d::Γ)>>=fun k=>if k=true then ge (.ro d::Γ)>>=fun e=>.ok (some e) else .ok none
noncomputable def z2q(gi:G->R (List D))(f:D->G->R (Option D)):G->R (List D):=fun Γ=>gi Γ>>=fun items=>R.guard (items.length<=100000) (z1k (fun d=>f d Γ) items [])
inductive Fl where
 | nx (Γ:G) | rt (d:D) | rtF (ds:List D) | bk (Γ:G) | ct (Γ:G) | ex (c:Er) (Γ:G)
noncomputable def lift{α:Type}(r:R α)(Γ:G)(k:α->R Fl):R Fl:=match r with
 | .no=>.no
 | .er c=>.ok (.ex c Γ)
 | .ok a=>k a
theorem z1p{α:Type}{r:R α}{Γ:G}{k:α->R Fl}(h:lift r Γ k ≠ .no):r ≠ .no:=fun e=>h (by rw[e];rfl)
theorem z2x{α:Type}{r:R α}{Γ:G}{k:α->R Fl}{a:α}(e:r = .ok a):lift r Γ k=k a:=by rw[e];rfl
theorem y2j{α:Type}{r:R α}{Γ:G}{k:α->R Fl}{a:α}(h:lift r Γ k ≠ .no)(e:r = .ok a):k a ≠ .no:=by rw[e] at h;exact h
theorem z3c{α:Type}(a:α)(Γ:G)(k:α->R Fl):lift (.ok a) Γ k=k a:=rfl
theorem z6w{α:Type}(c:Er)(Γ:G)(k:α->R Fl):lift (.er c:R α) Γ k = .ok (.ex c Γ):=rfl
noncomputable def frz(i:Nat)(Γ:G):G:=match Γ[i]? with
 | some (.own ds)=>Γ.set i (.ro (.lst ds))
 | _=>Γ
noncomputable def z1q:G->R Fl:=fun Γ=>.ok (.nx Γ)
noncomputable def gSt(t u:G->R Fl):G->R Fl:=fun Γ=>t Γ>>=fun r=>match r with
 | .nx Γ'=>u Γ'
 | r=>.ok r
noncomputable def z8b(g:G->R (List D)):G->R Fl:=fun Γ=>lift (g Γ) Γ fun ds=>.ok (.rtF ds)
noncomputable def z9g(i:Nat):G->R Fl:=fun Γ=>match Γ[i]? with
 | some (.own ds)=>.ok (.rtF ds)
 | _=>.no
noncomputable def gEx(g:G->R D):G->R Fl:=fun Γ=>lift (g Γ) Γ fun _=>.ok (.nx Γ)
noncomputable def z2d(c:Er):G->R Fl:=fun Γ=>.ok (.ex c Γ)
noncomputable def gRet(g:G->R D):G->R Fl:=fun Γ=>lift (g Γ) Γ fun d=>.ok (.rt d)
noncomputable def gIfS(gc:G->R Bool)(t u:G->R Fl):G->R Fl:=fun Γ=>lift (gc Γ) Γ fun k=>if k=true then t Γ else u Γ
noncomputable def gSet(i:Nat)(g:G->R D):G->R Fl:=fun Γ=>lift (g Γ) Γ fun d=>.ok (.nx (Γ.set i (.ro d)))
noncomputable def frz1:En->En
 | .own ds=>.ro (.lst ds)
 | e=>e
noncomputable def z3h(i:Nat)(g:G->R (List D)):G->R Fl:=fun Γ=>lift (g Γ) Γ fun ds=>.ok (.nx (Γ.set i (.own ds)))
noncomputable def gApp(i:Nat)(g:G->R D):G->R Fl:=fun Γ=>match Γ[i]? with
 | some (.own ds)=>lift (g Γ) Γ fun d=>R.guard (ds.length<=100000) (.ok (.nx (Γ.set i (.own (ds++[d])))))
 | _=>.no
noncomputable def z2y(gb:G->R Fl)(i:Nat):List D->G->R Fl
 | [],Γ=>.ok (.nx Γ)
 | d::r,Γ=>match gb (Γ.set i (.ro d)) with
   | .ok (.nx Γ')=>z2y gb i r Γ'
   | .ok (.ct Γ')=>z2y gb i r Γ'
   | .ok (.bk Γ')=>.ok (.nx Γ')
   | .ok (.rt d)=>.ok (.rt d)
   | .ok (.rtF d)=>.ok (.rtF d)
   | .ok (.ex c Γ')=>.ok (.ex c Γ')
   | _=>.no
noncomputable def gFor(i:Nat)(gi:G->R (List D))(gb:G->R Fl):G->R Fl:=fun Γ=>lift (gi Γ) Γ fun ds=>z2y gb i ds Γ
noncomputable def whGo(gc:G->R Bool)(gb:G->R Fl):Nat->G->R Fl
 | 0,_=>.no
 | n+1,Γ=>lift (gc Γ) Γ fun k=>if k=true then (match gb Γ with
    | .ok (.nx Γ')=>whGo gc gb n Γ'
    | .ok (.ct Γ')=>whGo gc gb n Γ'
    | .ok (.bk Γ')=>.ok (.nx Γ')
    | .ok (.rt d)=>.ok (.rt d)
    | .ok (.rtF d)=>.ok (.rtF d)
    | .ok (.ex c Γ')=>.ok (.ex c Γ')
    | _=>.no) else .ok (.nx Γ)
theorem z5e(gb:G->R Fl)(i:Nat)(Γ:G):z2y gb i [] Γ = .ok (.nx Γ):=rfl
theorem y7t(gb:G->R Fl)(i:Nat)(d:D)(ds:List D)(Γ:G):z2y gb i (d::ds) Γ=match gb (Γ.set i (.ro d)) with
 | .ok (.nx Γ')=>z2y gb i ds Γ'
 | .ok (.ct Γ')=>z2y gb i ds Γ'
 | .ok (.bk Γ')=>.ok (.nx Γ')
 | .ok (.rt d)=>.ok (.rt d)
 | .ok (.rtF d)=>.ok (.rtF d)
 | .ok (.ex c Γ')=>.ok (.ex c Γ')
 | _=>.no:=rfl
theorem z6z{gb:G->R Fl}{i:Nat}(I:Nat->G->Prop):∀(ds:List D) (k:Nat) (Γ:G),I k Γ ->
 (∀(j:Nat) (d:D) (Γ:G),ds[j]? = some d->I (k+j) Γ->∃Γ',(gb (Γ.set i (.ro d)) = .ok (.nx Γ')∨gb (Γ.set i (.ro d)) = .ok (.ct Γ'))/\I (k+j+1) Γ') ->
 ∃Γ',z2y gb i ds Γ = .ok (.nx Γ')/\I (k+ds.length) Γ'
 | [],k,Γ,h,_=>⟨Γ,rfl,h⟩
 | d::ds,k,Γ,h,q=>by
   obtain⟨Γ1,e1,h1⟩:=q 0 d Γ rfl h
   obtain⟨Γ2,e2,h2⟩:=z6z I ds (k+1) Γ1 h1 fun j d' Γ' hd hI=>by
    have:=q (j+1) d' Γ' (by simpa using hd) (by rw[show k+(j+1)=k+1+j by lia];exact hI)
    rw[show k+(j+1)=k+1+j by lia] at this
    exact this
   refine⟨Γ2,?_,by rw[List.length_cons,show k+(ds.length+1)=k+1+ds.length by lia];exact h2⟩
   rw[y7t]
   rcases e1 with e1 | e1<;>rw[e1]<;>exact e2
theorem x0m{gb:G->R Fl}{i:Nat}(S:Nat->G)(ds:List D)(q:∀(j:Nat) (d:D),ds[j]? = some d->gb ((S j).set i (.ro d)) = .ok (.nx (S (j+1)))):z2y gb i ds (S 0) = .ok (.nx (S ds.length)):=by
 obtain⟨Γ',e,h⟩:=z6z (gb:=gb) (i:=i) (fun k Γ=>Γ=S k) ds 0 (S 0) rfl fun j d Γ hd hI=>by
  rw[Nat.zero_add] at hI ⊢
  subst hI
  exact⟨_,.inl (q j d hd),rfl⟩
 rw[Nat.zero_add] at h
 rw[e,h]
theorem y7s{gb:G->R Fl}{i:Nat}{Γ:G}(S:Nat->G){ds:List D}(h0:Γ=S 0)(q:∀(j:Nat) (d:D),ds[j]? = some d->gb ((S j).set i (.ro d)) = .ok (.nx (S (j+1)))):z2y gb i ds Γ = .ok (.nx (S ds.length)):=by
 rw[h0];exact x0m S ds q
theorem y4y{gb:G->R Fl}{i:Nat}{Γ:G}(S:Nat->G){lo:Int}{n:Nat}(h0:Γ=S 0)(q:∀(j:Nat),j<n->gb ((S j).set i (.ro (.int (lo+(j:Int))))) = .ok (.nx (S (j+1)))):z2y gb i (z3e lo n) Γ = .ok (.nx (S n)):=by
 rw[y7s S h0,z0t]
 intro j d hd
 have hj:j<n:=by
  have:=(List.getElem?_eq_some_iff.mp hd).1
  rw[z0t] at this;exact this
 rw[z7f lo _ _ hj] at hd
 cases hd
 exact q j hj
theorem z8m(gc:G->R Bool)(gb:G->R Fl)(n:Nat)(Γ:G):whGo gc gb (n+1) Γ=lift (gc Γ) Γ fun k=>if k=true then (match gb Γ with
 | .ok (.nx Γ')=>whGo gc gb n Γ'
 | .ok (.ct Γ')=>whGo gc gb n Γ'
 | .ok (.bk Γ')=>.ok (.nx Γ')
 | .ok (.rt d)=>.ok (.rt d)
 | .ok (.rtF d)=>.ok (.rtF d)
 | .ok (.ex c Γ')=>.ok (.ex c Γ')
 | _=>.no) else .ok (.nx Γ):=rfl
theorem y0t{gc:G->R Bool}{gb:G->R Fl}(I:Nat->G->Prop)(Q:R Fl->Prop)(q:∀m Γ,I m Γ->(gc Γ = .ok false/\Q (.ok (.nx Γ)))∨(gc Γ = .ok true /\
 ((∃Γ' m',m'<m/\(gb Γ = .ok (.nx Γ')∨gb Γ = .ok (.ct Γ'))/\I m' Γ')∨(∃Γ',gb Γ = .ok (.bk Γ')/\Q (.ok (.nx Γ')))∨(∃d,gb Γ = .ok (.rt d)/\Q (.ok (.rt d)))∨(∃d,gb Γ = .ok (.rtF d)/\Q (.ok (.rtF d)))∨(∃c Γ',gb Γ = .ok (.ex c Γ')/\Q (.ok (.ex c Γ')))))) :
 ∀(n m:Nat) (Γ:G),m<n->I m Γ->Q (whGo gc gb n Γ)
 | 0,m,Γ,h,_=>absurd h (Nat.not_lt_zero _)
 | n+1,m,Γ,h,hI=>by
   rw[z8m]
   rcases q m Γ hI with ⟨e,hq⟩ | ⟨e,h2⟩
   ·rw[e,z3c,if_neg Bool.false_ne_true];exact hq
   ·rw[e,z3c,if_pos rfl]
    rcases h2 with ⟨Γ',m',hm,e',h'⟩ | ⟨Γ',e',h'⟩ | ⟨d,e',h'⟩ | ⟨d,e',h'⟩ | ⟨c,Γ',e',h'⟩
    ·rcases e' with e' | e'<;>rw[e']<;>exact y0t I Q q n m' Γ' (by lia) h'
    ·rw[e'];exact h'
    ·rw[e'];exact h'
    ·rw[e'];exact h'
    ·rw[e'];exact h'
noncomputable def ini(n:Nat)(ds:List D):G:=ds.map En.ro++List.replicate (n-ds.length) En.no
noncomputable def fin(r:R Fl):R D:=match r with
 | .ok (.rt d)=>.ok d
 | .ok (.nx _)=>.ok .non
 | .ok (.ex c _)=>.er c
 | _=>.no
noncomputable def finF(r:R Fl):R (List D):=match r with
 | .ok (.rtF d)=>.ok d
 | .ok (.ex c _)=>.er c
 | _=>.no
noncomputable def fnC(p n:Nat)(g:G->R Fl):List D->R D:=fun ds=>if ds.length=p then fin (g (ini n ds)) else .no
theorem z2u{p n:Nat}{g:G->R Fl}{ds:List D}(h:fnC p n g ds ≠ .no):ds.length=p:=by
 unfold fnC at h
 by_cases q:ds.length=p
 ·exact q
 ·rw[if_neg q] at h;exact absurd rfl h
theorem z7v{p n:Nat}{g:G->R Fl}{ds:List D}(h:ds.length=p):fnC p n g ds=fin (g (ini n ds)):=if_pos h
noncomputable def fnF(p n:Nat)(g:G->R Fl):List D->R (List D):=fun ds=>if ds.length=p then finF (g (ini n ds)) else .no
theorem z5g{p n:Nat}{g:G->R Fl}{ds:List D}(h:fnF p n g ds ≠ .no):ds.length=p:=by
 unfold fnF at h
 by_cases q:ds.length=p
 ·exact q
 ·rw[if_neg q] at h;exact absurd rfl h
theorem y2y{p n:Nat}{g:G->R Fl}{ds:List D}(h:ds.length=p):fnF p n g ds=finF (g (ini n ds)):=if_pos h
theorem y9r:((0:Nat):Int)=0:=rfl
theorem y9q:((1:Nat):Int)=1:=rfl
theorem y9p:((2:Nat):Int)=2:=rfl
theorem y9o:((3:Nat):Int)=3:=rfl
theorem y9n:((4:Nat):Int)=4:=rfl
end
noncomputable def maxI:List Int->Int
 | []=>0
 | [a]=>a
 | a::b::r=>if maxI (b::r)>a then maxI (b::r) else a
theorem y5z:∀{ns:List Int},ns≠[]->maxI ns∈ns
 | [a],_=>by simp[maxI]
 | a::b::r,_=>by
   have ih:=y5z (ns:=b::r) (by simp)
   unfold maxI
   split
   ·exact List.mem_cons_of_mem _ ih
   ·exact List.mem_cons_self
theorem y9w:∀{ns:List Int} {a:Int},a∈ns->a<=maxI ns
 | [b],a,h=>by simp only[List.mem_singleton] at h;subst h;exact Int.le_refl _
 | b::c::r,a,h=>by
   unfold maxI
   rcases List.mem_cons.mp h with rfl | h
   ·split<;>lia
   ·have:=y9w h
    split<;>lia
theorem y2g{ns:List Int}{m:Int}(h:m∈ns)(g:∀a∈ns,a<=m):m=maxI ns:=Int.le_antisymm (y9w h) (g _ (y5z fun z=>by rw[z] at h;cases h))
noncomputable def y7y(ds:List D):R D:=match ds with
 | [.lst xs]=>(match ints? xs with | some (n::ns)=>.ok (.int (maxI (n::ns))) | _=>.no)
 | [.int i,.int j]=>.ok (.int (if j>i then j else i))
 | _=>.no
theorem z9o(n:Int)(ns:List Int):y7y [.lst (D.int n::ns.map D.int)] = .ok (.int (maxI (n::ns))):=by
 have h:=ints?_map (n::ns)
 rw[List.map_cons] at h
 simp only[y7y,h]
noncomputable def bigN:Nat:=10^1200
noncomputable def y5x(i j:Int):Prop:=i.natAbs<bigN/\j.natAbs<bigN
noncomputable instance (i j:Int):Decidable (y5x i j):=by unfold y5x;exact inferInstance
noncomputable def D.isNon:D->Bool
 | .non=>true
 | _=>false
noncomputable def y0a(gs:G->R (List D)):G->R (List D):=fun Γ=>gs Γ>>=fun ds=>R.guard (ds.length<=1000) (.ok ds)
noncomputable def z8a(ga:G->R D):G->R Bool:=fun Γ=>ga Γ>>=fun d=>match d with
 | .lst ds=>.ok (!ds.isEmpty)
 | _=>.no
noncomputable def gExt(i:Nat)(gs:G->R (List D)):G->R Fl:=fun Γ=>match Γ[i]? with
 | some (.own ds)=>lift (gs Γ) Γ fun es=>R.guard (ds.length+es.length<=100000) (.ok (.nx (Γ.set i (.own (ds++es)))))
 | _=>.no
theorem w0b{i:Nat}{gs:G->R (List D)}{Γ:G}{ds es:List D}(hi:Γ[i]? = some (.own ds))(h:gs Γ = .ok es)(hl:ds.length+es.length<=100000):gExt i gs Γ = .ok (.nx (Γ.set i (.own (ds++es)))):=by
 unfold gExt;rw[hi]
 show lift (gs Γ) Γ _=_
 rw[h,z3c,z0h hl]
noncomputable def dIn(x c:D):R D:=match c with
 | .lst ys=>R.guard (D.lay 40 x=true/\D.lay 40 (.lst ys)=true) (.ok (.bl (ys.any fun y=>eqD y x)))
 | .tup ys=>R.guard (D.lay 40 x=true/\D.lay 40 (.tup ys)=true) (.ok (.bl (ys.any fun y=>eqD y x)))
 | _=>.no
end L3
namespace L3
section
variable {Γ Γ':G}{i:Nat}{g gk:G->R D}{gs:G->R (List D)}{gc:G->R Bool}{t u e gb:G->R Fl}{r:R Fl}{d k:D}{ds:List D}{c:Er}
theorem y0d(h:t Γ = .ok (.nx Γ'))(h2:u Γ'=r):gSt t u Γ=r:=by unfold gSt;rw[h];exact h2
theorem x3j(h:t Γ = .ok (.rt d)):gSt t u Γ = .ok (.rt d):=by unfold gSt;rw[h];rfl
theorem x8w(h:t Γ = .ok (.rtF ds)):gSt t u Γ = .ok (.rtF ds):=by unfold gSt;rw[h];rfl
theorem y2n(h:g Γ = .ok d):gSet i g Γ = .ok (.nx (Γ.set i (.ro d))):=by unfold gSet;rw[h];rfl
theorem y6b(h:gs Γ = .ok ds):z3h i gs Γ = .ok (.nx (Γ.set i (.own ds))):=by unfold z3h;rw[h];rfl
theorem w0c(ho:Γ[i]? = some (.own ds))(h:g Γ = .ok d)(hl:ds.length<=100000):gApp i g Γ = .ok (.nx (Γ.set i (.own (ds++[d])))):=by
 unfold gApp;rw[ho];simp only[h,z3c,z0h hl]
theorem y2o(hc:gc Γ = .ok true)(h:t Γ=r):gIfS gc t u Γ=r:=by unfold gIfS;rw[hc];exact h
theorem x6j(hc:gc Γ = .ok false)(h:u Γ=r):gIfS gc t u Γ=r:=by unfold gIfS;rw[hc];exact h
theorem y0j(hc:gc Γ = .ok false):gIfS gc t z1q Γ = .ok (.nx Γ):=x6j hc rfl
theorem w0a(hi:gs Γ = .ok ds)(h:z2y gb i ds Γ=r):gFor i gs gb Γ=r:=by unfold gFor;rw[hi];exact h
theorem z2g(h:g Γ = .ok d):gRet g Γ = .ok (.rt d):=by unfold gRet;rw[h];rfl
theorem y6c(h:gs Γ = .ok ds):z8b gs Γ = .ok (.rtF ds):=by unfold z8b;rw[h];rfl
theorem x4h(h:Γ[i]? = some (.own ds)):z9g i Γ = .ok (.rtF ds):=by unfold z9g;rw[h]
theorem l_ex(h:g Γ = .ok d):gEx g Γ = .ok (.nx Γ):=by unfold gEx;rw[h];rfl
theorem z1x(hg:g Γ = .ok d)(h:u (Γ.set i (.ro d))=r):gSt (gSet i g) u Γ=r:=y0d (y2n hg) h
theorem z3w(hg:gs Γ = .ok ds)(h:u (Γ.set i (.own ds))=r):gSt (z3h i gs) u Γ=r:=y0d (y6b hg) h
theorem z1f(hc:gc Γ = .ok false)(h:u Γ=r):gSt (gIfS gc t z1q) u Γ=r:=y0d (y0j hc) h
theorem x1e(hc:gc Γ = .ok true)(ht:t Γ = .ok (.nx Γ'))(h:u Γ'=r):gSt (gIfS gc t e) u Γ=r:=y0d (y2o hc ht) h
theorem x4q(hi:gs Γ = .ok ds)(hf:z2y gb i ds Γ = .ok (.nx Γ'))(h:u Γ'=r):gSt (gFor i gs gb) u Γ=r:=y0d (w0a hi hf) h
theorem z1g{p n:Nat}(hl:ds.length=p)(h:t (ini n ds) = .ok (.rt d)):fnC p n t ds = .ok d:=by rw[z7v hl,h];rfl
theorem y2x{p n:Nat}{es:List D}(hl:ds.length=p)(h:t (ini n ds) = .ok (.rtF es)):fnF p n t ds = .ok es:=by rw[y2y hl,h];rfl
noncomputable def Ends(r:R Fl)(I:G->Prop):Prop:=∃Γ',(r = .ok (.nx Γ')∨r = .ok (.ct Γ'))/\I Γ'
theorem Ends.nx{I:G->Prop}{r:R Fl}(h:r = .ok (.nx Γ))(hI:I Γ):Ends r I:=⟨Γ,.inl h,hI⟩
theorem z9v(I:Nat->G->Prop)(hi:gs Γ = .ok ds)(h0:I 0 Γ)(hq:∀(j:Nat) (d:D) (Γ:G),ds[j]? = some d->I j Γ->Ends (gb (Γ.set i (.ro d))) (I (j+1)))(h:∀Γ',I ds.length Γ'->u Γ'=r):gSt (gFor i gs gb) u Γ=r:=by
 obtain⟨Γ',e,h'⟩:=z6z I ds 0 Γ h0 fun j d Γ hd hI=>by rw[Nat.zero_add] at hI ⊢;exact hq j d Γ hd hI
 rw[Nat.zero_add] at h'
 exact x4q hi e (h Γ' h')
end
noncomputable def cg(P a b:Int):Prop:=a%P=b%P
theorem cg.refl{P a:Int}:cg P a a:=rfl
theorem cg.symm{P a b:Int}(h:cg P a b):cg P b a:=Eq.symm h
theorem cg.trans{P a b c:Int}(h:cg P a b)(g:cg P b c):cg P a c:=Eq.trans h g
theorem cg.of_eq{P a b:Int}(h:a=b):cg P a b:=by rw[h];exact cg.refl
theorem cg.sub{P a b c d:Int}(h:cg P a b)(g:cg P c d):cg P (a-c) (b-d):=by unfold cg at *;rw[Int.sub_emod,h,g,<-Int.sub_emod]
theorem cg.mul{P a b c d:Int}(h:cg P a b)(g:cg P c d):cg P (a*c) (b*d):=by unfold cg at *;rw[Int.mul_emod,h,g,<-Int.mul_emod]
theorem y4z{w P:Int}(h:0<P):0<=w%P:=Int.emod_nonneg _ (by lia)
theorem y5a{w P:Int}(h:0<P):w%P<P:=Int.emod_lt_of_pos _ h
end L3
namespace L3
open PySem
noncomputable def dStr(ds:List D):R D:=match ds with
 | [.int i]=>R.guard (i.natAbs.log2<1920) (.ok (.str (toString i)))
 | _=>.no
noncomputable def x0v(ds:List D):R D:=match ds with
 | [.str x]=>R.guard (x.length<=100000) (.ok (.int x.length))
 | _=>.no
noncomputable def dIxS(x y:D):R D:=match x,y with
 | .str z,.int i=>R.guard (z.length<=100000) (match atI z.cps.toList i with | some c=>.ok (.str ⟨#[c]⟩) | none=>.no)
 | _,_=>.no
noncomputable def y5c(x y:D):R D:=match x,y with
 | .str i,.str j=>R.guard (i.length+j.length<=100000) (.ok (.str (i++j)))
 | _,_=>.no
noncomputable def inS(i j:Str):Bool:=!(Builtin.Str.occurrences j i 0 j.length 1).isEmpty
noncomputable def dInS(x y:D):R D:=match x,y with
 | .str i,.str j=>.ok (.bl (inS i j))
 | _,_=>.no
noncomputable def z7m(x c:D):R D:=match c with
 | .tup ys=>R.guard (D.lay 40 x=true/\D.lay 40 (.tup ys)=true) (.ok (.bl (!(ys.any fun y=>eqD y x))))
 | _=>.no
noncomputable def strs?:List D->Option (List Str)
 | []=>some []
 | .str x::r=>(strs? r).map (x::·)
 | _::_=>none
theorem strs?_map:∀xs:List Str,strs? (xs.map D.str)=some xs
 | []=>rfl
 | x::r=>by rw[List.map_cons,strs?,strs?_map r];rfl
theorem strs?_some:∀{ds:List D} {xs:List Str},strs? ds=some xs->ds=xs.map D.str
 | [],xs,h=>by cases h;rfl
 | .str x::r,xs,h=>by
   rw[strs?] at h
   obtain⟨ys,e,rfl⟩:=Option.map_eq_some_iff.mp h
   rw[strs?_some e];rfl
 | .non::_,_,h=>by cases h
 | .bl _::_,_,h=>by cases h
 | .int _::_,_,h=>by cases h
 | .tup _::_,_,h=>by cases h
 | .lst _::_,_,h=>by cases h
 | .dct::_,_,h=>by cases h
 | .exc _::_,_,h=>by cases h
noncomputable def y0b(sep:Str)(g:G->R D):G->R D:=fun Γ=>g Γ>>=fun d=>match d with
 | .lst ds=>(match strs? ds with | some xs=>R.guard (JoinOk sep xs=true) (.ok (.str (Txt.join sep xs))) | none=>.no)
 | _=>.no
noncomputable def y2t(sep:Str)(g:G->R D):G->R (List D):=fun Γ=>g Γ>>=fun d=>match d with
 | .str x=>R.guard (x.length<=100000/\(sep.length==0)=false) (.ok ((Txt.split x sep).map D.str))
 | _=>.no
noncomputable def z4z(x:Str):List D:=x.cps.toList.map fun c=>.str ⟨#[c]⟩
noncomputable def y0n(g:G->R D):G->R (List D):=fun Γ=>g Γ>>=fun d=>match d with
 | .str x=>R.guard (x.length<=100000) (.ok (z4z x))
 | _=>.no
noncomputable def R.good{α:Type}(r:R α):R α:=match r with
 | .ok a=>.ok a
 | _=>.no
theorem R.good_ne{α:Type}{r:R α}(h:R.good r ≠ .no):∃a,r = .ok a:=by
 cases r with
 | ok a=>exact⟨a,rfl⟩
 | no=>exact absurd rfl h
 | er c=>exact absurd rfl h
noncomputable def z2i(φ:List D->R (D×List D))(gs:G->R (List D)):G->R (D×List D):=fun Γ=>R.good (gs Γ)>>=fun ds=>R.good (φ ds)
theorem x0k{φ:List D->R (D×List D)}{gs:G->R (List D)}{Γ:G}(h:z2i φ gs Γ ≠ .no):∃ds r,gs Γ = .ok ds/\φ ds = .ok r/\z2i φ gs Γ = .ok r:=by
 obtain⟨ds,e1⟩:=R.good_ne (R.left h)
 have e2:z2i φ gs Γ=R.good (φ ds):=by unfold z2i;rw[e1];rfl
 rw[e2] at h ⊢
 obtain⟨r,e3⟩:=R.good_ne h
 exact⟨ds,r,e1,e3,by rw[e3];rfl⟩
noncomputable def y7q(i:Nat)(gc:G->R D):G->R (D×List D):=fun Γ=>R.good (gc Γ)>>=fun d=>match d with
 | .int n=>(match Γ[i]? with
   | some (.own ws)=>if (0<=n/\n.toNat<=ws.length/\ws.length<=100000) then .ok (.lst (ws.reverse.take n.toNat),ws.take (ws.length-n.toNat)) else .no
   | _=>.no)
 | _=>.no
theorem x2v{i:Nat}{gc:G->R D}{Γ:G}(h:y7q i gc Γ ≠ .no):∃(n:Int) (ws:List D),gc Γ = .ok (.int n)/\Γ[i]? = some (.own ws)/\0<=n/\n.toNat<=ws.length/\ws.length<=100000/\y7q i gc Γ = .ok (.lst (ws.reverse.take n.toNat),ws.take (ws.length-n.toNat)):=by
 unfold y7q at h ⊢
 cases e1:gc Γ with
 | no=>rw[e1] at h;exact absurd rfl h
 | er c=>rw[e1] at h;exact absurd rfl h
 | ok d =>
   rw[e1] at h
   cases d with
   | int n =>
     cases hw:Γ[i]? with
     | none=>rw[hw] at h;exact absurd rfl h
     | some en =>
       cases en with
       | no=>rw[hw] at h;exact absurd rfl h
       | ro d'=>rw[hw] at h;exact absurd rfl h
       | own ws =>
         rw[hw] at h
         by_cases hq:(0<=n/\n.toNat<=ws.length/\ws.length<=100000)
         ·refine⟨n,ws,rfl,rfl,hq.1,hq.2.1,hq.2.2,?_⟩
          show(if (0<=n/\n.toNat<=ws.length/\ws.length<=100000) then R.ok (D.lst (ws.reverse.take n.toNat),ws.take (ws.length-n.toNat)) else .no)=_
          rw[if_pos hq]
         ·exact absurd (show(if (0<=n/\n.toNat<=ws.length/\ws.length<=100000) then R.ok (D.lst (ws.reverse.take n.toNat),ws.take (ws.length-n.toNat)) else .no) = .no by rw[if_neg hq]) h
   | _=>exact absurd rfl h
noncomputable def z9z(j w:Nat)(u:G->R (D×List D)):G->R Fl:=fun Γ=>match u Γ with
 | .ok (d,ws)=>.ok (.nx ((Γ.set w (.own ws)).set j (.ro d)))
 | _=>.no
noncomputable def gExM(w:Nat)(u:G->R (D×List D)):G->R Fl:=fun Γ=>match u Γ with
 | .ok (_,ws)=>.ok (.nx (Γ.set w (.own ws)))
 | _=>.no
noncomputable def y1l(m w:Nat)(u:G->R (D×List D)):G->R Fl:=fun Γ=>match u Γ with
 | .ok (d,ws)=>(match (Γ.set w (.own ws))[m]? with
   | some (.own ds)=>if ds.length<=100000 then .ok (.nx ((Γ.set w (.own ws)).set m (.own (ds++[d])))) else .no
   | _=>.no)
 | _=>.no
noncomputable def y4w(w:Nat)(u:G->R (D×List D)):G->R Fl:=fun Γ=>match u Γ with
 | .ok (.bl false,ws)=>.ok (.nx (Γ.set w (.own ws)))
 | _=>.no
noncomputable def gIxM(w:Nat)(u:G->R (D×List D))(gb:G->R D):G->R (D×List D):=fun Γ=>match u Γ with
 | .ok (d,ws)=>(match gb (Γ.set w (.own ws)) with
   | .ok b=>(match dIx d b with | .ok r=>.ok (r,ws) | _=>.no)
   | _=>.no)
 | _=>.no
noncomputable def gOpM(φ:D->D->R D)(w:Nat)(u:G->R (D×List D))(gb:G->R D):G->R (D×List D):=fun Γ=>match u Γ with
 | .ok (d,ws)=>(match gb (Γ.set w (.own ws)) with
   | .ok b=>(match φ d b with | .ok r=>.ok (r,ws) | _=>.no)
   | _=>.no)
 | _=>.no
noncomputable def z7l(φ:List D->R D)(u:G->R (D×List D)):G->R (D×List D):=fun Γ=>match u Γ with
 | .ok (d,ws)=>(match φ [d] with | .ok r=>.ok (r,ws) | _=>.no)
 | _=>.no
noncomputable def z3u(j w:Nat)(u:G->R (D×List D))(f:D->G->R (Option D)):G->R Fl:=fun Γ=>match u Γ with
 | .ok (.lst items,ws)=>if items.length<=100000 then (match z1k (fun d=>f d (Γ.set w (.own ws))) items [] with | .ok total=>.ok (.nx ((Γ.set w (.own ws)).set j (.own total))) | _=>.no) else .no
 | _=>.no
theorem y2u{j w:Nat}{u:G->R (D×List D)}{f:D->G->R (Option D)}{Γ:G}(h:z3u j w u f Γ ≠ .no):∃items ws total,u Γ = .ok (.lst items,ws)/\items.length<=100000/\z1k (fun d=>f d (Γ.set w (.own ws))) items [] = .ok total/\z3u j w u f Γ = .ok (.nx ((Γ.set w (.own ws)).set j (.own total))):=by
 unfold z3u at h ⊢
 cases e1:u Γ with
 | no=>rw[e1] at h;exact absurd rfl h
 | er c=>rw[e1] at h;exact absurd rfl h
 | ok r =>
   obtain⟨d,ws⟩:=r
   cases d with
   | lst items =>
     rw[e1] at h
     dsimp only at h ⊢
     by_cases q:items.length<=100000
     ·rw[if_pos q] at h ⊢
      cases e2:z1k (fun d=>f d (Γ.set w (.own ws))) items [] with
      | no=>rw[e2] at h;exact absurd rfl h
      | er c=>rw[e2] at h;exact absurd rfl h
      | ok total=>exact⟨items,ws,total,rfl,q,e2,rfl⟩
     ·rw[if_neg q] at h;exact absurd rfl h
   | _=>rw[e1] at h;exact absurd rfl h
noncomputable def metS(xs:List Str):List Str:=xs.foldl (fun l k=>if k∈l then l else k::l) []
theorem z9b(xs:List Str)(k:Str):metS (xs++[k])=if k∈metS xs then metS xs else k::metS xs:=by
 unfold metS
 rw[List.foldl_append];rfl
noncomputable def y6f(ga:G->R D):G->R D:=fun Γ=>ga Γ>>=fun d=>match d with
 | .lst ds=>(match strs? ds with | some xs=>R.guard (xs.length<=1000) (.ok (.int (metS xs).length)) | none=>.no)
 | _=>.no
noncomputable def z6y(g:G->R D):G->R (List D):=fun Γ=>g Γ>>=fun d=>match d with
 | .lst ds=>R.guard (ds.length<=100000/\D.noLs ds=true) (.ok ds.reverse)
 | _=>.no
noncomputable def z3v(xs:List Str)(x:Str):R D:=match xs.findIdx? (·==x) with
 | some j=>R.guard (xs.length<=1000) (.ok (.int (j:Int)))
 | none=>.no
noncomputable def z9h(ga gb:G->R D):G->R D:=fun Γ=>ga Γ>>=fun a=>match a with
 | .tup ds=>gb Γ>>=fun b=>(match b with
   | .str x=>(match strs? ds with | some xs=>z3v xs x | none=>.no)
   | _=>.no)
 | _=>.no
noncomputable def x0w(ds:List D):R D:=match ds with
 | [.str x]=>R.guard (x.length<=640) (match intText? x with | some n=>.ok (.int n) | none=>.no)
 | _=>.no
noncomputable def y1k(i:Nat)(g:G->R D):G->R (D×List D):=fun Γ=>R.good (g Γ)>>=fun d=>match Γ[i]? with
 | some (.own ws)=>.ok (d,ws)
 | _=>.no
noncomputable def gStM(t:G->R Fl)(u:G->R (D×List D)):G->R (D×List D):=fun Γ=>match t Γ with
 | .ok (.nx Γ')=>u Γ'
 | _=>.no
noncomputable def gIfM(c:G->R Bool)(t u:G->R (D×List D)):G->R (D×List D):=fun Γ=>R.good (c Γ)>>=fun b=>if b=true then t Γ else u Γ
noncomputable def gNev:G->R Fl:=fun _=>.no
noncomputable def x6u:G->R (D×List D):=fun _=>.no
noncomputable def z4h(i:Nat)(t:G->R Fl):G->R (D×List D):=fun Γ=>match t Γ with
 | .ok (.nx Γ')=>(match Γ'[i]? with | some (.own ws)=>.ok (.non,ws) | _=>.no)
 | _=>.no
noncomputable def gNoX(t:G->R Fl):G->R Fl:=fun Γ=>match t Γ with
 | .ok (.ex _ _)=>.no
 | r=>r
noncomputable def fnM(p n i:Nat)(g:G->R (D×List D)):List D->R (D×List D):=fun ds=>if ds.length=p then (match ds[i]? with | some (.lst ws)=>g ((ini n ds).set i (.own ws)) | _=>.no) else .no
theorem z5f{p n i:Nat}{g:G->R (D×List D)}{ds:List D}(h:fnM p n i g ds ≠ .no):ds.length=p:=by
 unfold fnM at h
 by_cases q:ds.length=p
 ·exact q
 ·rw[if_neg q] at h;exact absurd rfl h
theorem z5w{p n i:Nat}{g:G->R (D×List D)}{as bs ws:List D}(hi:as.length=i)(h:(as++D.lst ws::bs).length=p):fnM p n i g (as++D.lst ws::bs)=g ((ini n (as++D.lst ws::bs)).set i (.own ws)):=by
 unfold fnM
 rw[if_pos h,List.getElem?_append_right (by lia),hi,Nat.sub_self]
 rfl
noncomputable def z5q(w:Nat)(gs:G->R (List D)):G->R (List D):=fun Γ=>match Γ[w]? with
 | some (.own ws)=>gs Γ>>=fun bs=>.ok (.lst ws::bs)
 | _=>.no
theorem y3e{c:Nat}:∀{a b r q:List Nat},c ∉ a->c ∉ b->a++c::r=b++c::q->a=b/\r=q
 | [],[],r,q,_,_,h=>by simpa using h
 | [],y::b,r,q,_,hb,h=>by
   simp only[List.nil_append,List.cons_append,List.cons.injEq] at h
   exact absurd (h.1 ▸ List.mem_cons_self ..) hb
 | x::a,[],r,q,ha,_,h=>by
   simp only[List.nil_append,List.cons_append,List.cons.injEq] at h
   exact absurd (h.1 ▸ List.mem_cons_self ..) ha
 | x::a,y::b,r,q,ha,hb,h=>by
   simp only[List.cons_append,List.cons.injEq] at h
   obtain⟨h1,h2⟩:=y3e (fun z=>ha (List.mem_cons_of_mem _ z)) (fun z=>hb (List.mem_cons_of_mem _ z)) h.2
   exact⟨by rw[h.1,h1],h2⟩
noncomputable def one(c:Nat):Str:=⟨#[c]⟩
theorem z6x(c:Nat)(x y:Str)(r:List Str):(Str.join (one c) (x::y::r)).cps.toList=x.cps.toList++c::(Str.join (one c) (y::r)).cps.toList:=by
 show((x++one c++Str.join (one c) (y::r)).cps).toList=_
 rw[Str.cps_append,Str.cps_append]
 simp[one]
theorem y2p{c:Nat}{x:Str}(hx:c ∉ x.cps.toList){y z:Str}{r:List Str}:x≠Str.join (one c) (y::z::r):=fun h=>by
 have e:=congrArg (fun s:Str=>s.cps.toList) h
 rw[z6x] at e
 exact hx (e ▸ List.mem_append_right _ (List.mem_cons_self ..))
theorem y6d(c:Nat):∀{xs ys:List Str},xs≠[]->ys≠[]->(∀x∈xs,c ∉ x.cps.toList)->(∀y∈ys,c ∉ y.cps.toList)->Str.join (one c) xs=Str.join (one c) ys->xs=ys
 | [],_,h,_,_,_,_=>absurd rfl h
 | _,[],_,h,_,_,_=>absurd rfl h
 | [x],[y],_,_,_,_,h=>by rw[show x=y from h]
 | [x],y::z::r,_,_,hx,_,h=>absurd h (y2p (hx x (List.mem_cons_self ..)))
 | x::w::q,[y],_,_,_,hy,h=>absurd h.symm (y2p (hy y (List.mem_cons_self ..)))
 | x::w::q,y::z::r,_,_,hx,hy,h=>by
   have e:=congrArg (fun s:Str=>s.cps.toList) h
   rw[z6x,z6x] at e
   obtain⟨h1,h2⟩:=y3e (hx x (List.mem_cons_self ..)) (hy y (List.mem_cons_self ..)) e
   have h3:Str.join (one c) (w::q)=Str.join (one c) (z::r):=Str.ext' (Array.toList_inj.mp h2)
   rw[show x=y from Str.ext' (Array.toList_inj.mp h1),y6d c (by simp) (by simp) (fun a ha=>hx a (List.mem_cons_of_mem _ ha)) (fun a ha=>hy a (List.mem_cons_of_mem _ ha)) h3]
theorem x1p(x y:Str):Txt.split x y≠[]:=by
 unfold Txt.split
 split
 ·simp
 ·split
  ·simp
  ·rw[StrLaws.partsBetween_eq]
   obtain⟨p,q,e⟩:=StrLaws.partsFrom_ne x y.length 0 (Builtin.Str.occurrences x y 0 x.length (x.length+1))
   rw[e];simp
theorem y0e(c:Nat){xs:List Str}(h0:xs≠[])(h:∀x∈xs,c ∉ x.cps.toList):Txt.split (Txt.join (one c) xs) (one c)=xs:=by
 have e:Txt.join (one c) xs=Str.join (one c) xs:=StrLaws.glued_eq_join _ _
 rw[e]
 exact y6d c (x1p _ _) h0 (StrLaws.split_free _ c) h (StrLaws.join_split _ _)
end L3
namespace L3
open PySem PySem.NumText
noncomputable def numS(n:Int):Str:=toString n
theorem x1q(s:String):(Str.ofString s).cps.toList=s.toList.map Char.toNat:=by
 simp only[Str.ofString_eq_toList,List.toList_toArray]
theorem z2n(m:Nat):(numS (m:Int)).cps.toList=(Nat.toDigits 10 m).map Char.toNat:=by
 show(Str.ofString (Nat.repr m)).cps.toList=_
 rw[x1q,Nat.toList_repr]
theorem x2y(m:Nat):1<=(Nat.toDigits 10 m).length:=by
 by_cases h:m<10
 ·rw[Nat.toDigits_of_lt_base h];simp
 ·have hm:m%10<10:=Nat.mod_lt m (by decide)
  have t:Nat.toDigits 10 (m/10)++Nat.toDigits 10 (m%10)=Nat.toDigits 10 (10*(m/10)+m%10):=Nat.toDigits_append_toDigits (by decide) (by lia) hm
  rw[Nat.div_add_mod] at t
  rw[<-t,List.length_append,Nat.toDigits_of_lt_base hm]
  simp
theorem y6i:∀d:Nat,d<10->(Nat.digitChar d).toNat-48=d:=by decide
theorem y3a(m:Nat):digitsVal ((Nat.toDigits 10 m).map Char.toNat)=m:=by
 induction m using Nat.strongRecOn with
 | _ m ih =>
   by_cases h:m<10
   ·rw[Nat.toDigits_of_lt_base h]
    have e:=y6i m h
    show 0*10+((Nat.digitChar m).toNat-48)=m
    lia
   ·have hm:m%10<10:=Nat.mod_lt m (by decide)
    have t:Nat.toDigits 10 (m/10)++Nat.toDigits 10 (m%10)=Nat.toDigits 10 (10*(m/10)+m%10):=Nat.toDigits_append_toDigits (by decide) (by lia) hm
    rw[Nat.div_add_mod] at t
    rw[<-t,List.map_append,Nat.toDigits_of_lt_base hm,List.map_cons,List.map_nil,digitsVal_snoc,ih (m/10) (by lia),y6i (m%10) hm]
    lia
theorem x0q{ch:Char}(h:ch.isDigit=true):48<=ch.toNat/\ch.toNat<=57:=by
 unfold Char.isDigit at h
 simp only[Bool.and_eq_true,decide_eq_true_eq] at h
 exact⟨h.1,h.2⟩
theorem z2l{n:Int}(h0:0<=n):PySem.NumText.AllDigits (numS n).cps.toList:=by
 obtain⟨m,rfl⟩:=Int.eq_ofNat_of_zero_le h0
 intro c hc
 rw[z2n] at hc
 obtain⟨ch,hch,e⟩:=List.mem_map.mp hc
 have r:=x0q (Nat.isDigit_of_mem_toDigits (by decide) (by decide) hch)
 rw[<-e]
 exact r
theorem y4n{n:Int}(h0:0<=n):(numS n).cps.toList≠[]:=by
 obtain⟨m,rfl⟩:=Int.eq_ofNat_of_zero_le h0
 rw[z2n]
 intro e
 have h:=x2y m
 rw[List.map_eq_nil_iff.mp e] at h
 exact absurd h (by decide)
theorem y7w:∀(k m:Nat),m<10^(k+1)->(Nat.toDigits 10 m).length<=k+1:=by
 intro k
 induction k with
 | zero=>intro m h;rw[Nat.toDigits_of_lt_base (by simpa using h)];simp
 | succ k ih =>
   intro m h
   by_cases q:m<10
   ·rw[Nat.toDigits_of_lt_base q];simp
   ·have hm:m%10<10:=Nat.mod_lt m (by decide)
    have t:Nat.toDigits 10 (m/10)++Nat.toDigits 10 (m%10)=Nat.toDigits 10 (10*(m/10)+m%10):=Nat.toDigits_append_toDigits (by decide) (by lia) hm
    rw[Nat.div_add_mod] at t
    rw[<-t,List.length_append,Nat.toDigits_of_lt_base hm]
    have:=ih (m/10) (by rw[Nat.pow_succ] at h;lia)
    simp only[List.length_cons,List.length_nil]
    lia
theorem z5j{n:Int}(h0:0<=n)(h1:n<=10^30):(numS n).length<=31:=by
 obtain⟨m,rfl⟩:=Int.eq_ofNat_of_zero_le h0
 have e:(numS (m:Int)).length=(Nat.toDigits 10 m).length:=by
  have:=congrArg List.length (z2n m)
  rw[List.length_map] at this
  simpa [Str.length] using this
 rw[e]
 refine y7w 30 m ?_
 have:(m:Int)<=((10^30:Nat):Int):=by simpa using h1
 have:=Int.ofNat_le.mp this
 exact Nat.lt_of_le_of_lt this (by decide)
theorem x2h{n:Int}(h0:0<=n):1<=(numS n).length:=by
 have:=y4n h0
 have e:(numS n).length=(numS n).cps.toList.length:=by simp[Str.length]
 rw[e]
 exact List.length_pos_iff.mpr this
theorem y7j{n:Int}(h0:0<=n)(h1:n<=10^30):intText? (numS n)=some n:=by
 have e:=intText_digits (z2l h0) (y4n h0) (Nat.le_trans (z5j h0 h1) (by decide))
 obtain⟨m,rfl⟩:=Int.eq_ofNat_of_zero_le h0
 rw[z2n,y3a] at e
 exact e
theorem y9k{n:Int}(h0:0<=n){r:List Nat}(h:(numS n).cps.toList=48::r):numS n=numS 0:=by
 obtain⟨m,rfl⟩:=Int.eq_ofNat_of_zero_le h0
 have hd:=z2l h0
 have hv:PySem.NumText.digitsVal (numS (m:Int)).cps.toList=m:=by rw[z2n,y3a]
 have t:=toDigits_all (numS (m:Int)).cps.toList hd
 rw[hv] at t
 have hl:(numS (m:Int)).cps.toList.length=(Nat.toDigits 10 m).length:=by rw[z2n,List.length_map]
 rw[h] at t hl
 rw[List.dropWhile_cons] at t
 simp only[beq_self_eq_true,if_true] at t
 cases q:r.dropWhile (·==48) with
 | nil =>
   rw[q] at t
   refine Str.ext' (Array.toList_inj.mp ?_)
   rw[z2n,t]
   exact(z2n 0).symm
 | cons c s =>
   rw[q] at t
   have l1:=congrArg List.length t
   rw[List.length_map] at l1
   have l2:(c::s).length<=r.length:=by
    rw[<-q]
    exact(List.dropWhile_sublist _).length_le
   simp only[List.length_cons] at l1 l2 hl
   lia
end L3
namespace L3
open PySem
noncomputable section
noncomputable def g_z:G->R Fl :=
 (gSt (gIfS (gT (gBin dLt (gV 1) (z0i dLen (gCons (gV 0) gNil)))) (gRet (gBin dIx (gV 0) (gV 1))) z1q)
 (gRet (gC (.int 0))))
noncomputable def c_z:List D->R D:=fnC 2 2 g_z
noncomputable def g_g:G->R Fl :=
 (gSt (z3h 3 (gLst gNil))
 (gSt (gFor 4 (y1j (gV 2))
 (gSt (gApp 3 (gNL (gBin dMod (gV 0) (gV 1))))
 (gSet 0 (gNL (gBin dDiv (gV 0) (gV 1))))))
 (gRet (z0i z2v (gCons (gV 3) gNil)))))
noncomputable def c_g:List D->R D:=fnC 3 5 g_g
noncomputable def g_t:G->R Fl :=
 (gSt (gIfS (gT (gBin dEq (gBin dMod (gV 0) (gC (.int 2))) (gC (.int 0)))) (gRet (gBin dIx (gTup (y7r [3,5,7,11,13,17,19,23])) (gBin dMod (gBin dDiv (gV 0) (gC (.int 2))) (gC (.int 8))))) z1q)
 (gSt (gSet 1 (gNL (gBin dAdd (gC (.int 3)) (gBin dMod (gBin dDiv (gV 0) (gC (.int 2))) (gC (.int 9971))))))
 (gSt (whGo (gT (z0i dAny (gCons (gL (z2q (y1i (gC (.int 2)) (gC (.int 100))) (z8c (gT (gBin dLt (gV 0) (gV 2))) (gNL (gBin dEq (gBin dMod (gV 2) (gV 0)) (gC (.int 0))))))) gNil))) (gSet 1 (gNL (gBin dAdd (gV 1) (gC (.int 1))))) 10000)
 (gRet (gV 1)))))
noncomputable def c_t:List D->R D:=fnC 1 2 g_t
noncomputable def g_n:G->R Fl :=
 (gRet (z4w (gIsi z5y (gV 0)) (y2v (gIsi z4b (gV 0)))))
noncomputable def c_n:List D->R D:=fnC 1 1 g_n
noncomputable def g_on:G->R Fl :=
 (gRet (gBin dMod (gV 1) (gV 0)))
noncomputable def c_on:List D->R D:=fnC 2 2 g_on
end
def wkL (e : String) : Lean.MacroM (Lean.TSyntax `tactic) := do let l <- (("L3.fin L3.finF L3.fnC L3.fnF L3.gV L3.gVr L3.gC L3.gNil L3.y7r L3.z1q L3.gSt L3.gSet L3.z3h L3.gNL L3.z0i L3.z1v L3.gCons L3.gRet L3.z8b L3.z9g L3.gEx L3.gBin L3.gL L3.z2q L3.y1j L3.y1i L3.y4v L3.fElt L3.z8c L3.gT L3.gAnd L3.gOr L3.gNot L3.z4w L3.gOrV L3.y2v L3.gNeg L3.dNeg L3.gIfS L3.gTup L3.gLst L3.frz1 L3.gSeq L3.z4g L3.dSeq L3.gFor L3.gApp L3.gIsi L3.dIsi L3.z2d L3.gSl L3.gSlF L3.gON L3.gOS L3.dOS L3.dCut L3.y3d L3.gCat L3.z7k L3.y7z L3.z4v L3.y5b L3.D.ty L3.z5y L3.z4b L3.z3y L3.z5x L3.z3c L3.z6w L3.z2p L3.z5u L3.z1b L3.y2h L3.z6v L3.ini L3.dLen L3.z2v L3.dAdd L3.dSub L3.dMul L3.dDiv L3.dMod L3.dPow L3.dLt L3.dLe L3.dGt L3.dGe L3.dEq L3.dNe L3.dIx L3.dMin L3.noEr L3.z7x R.bind_ok R.bind_er R.bind_no L3.z0h L3.z4f L3.z5e Bool.not_true Bool.not_false if_true if_false Bool.false_eq_true beq_self_eq_true ite_true ite_false Int.reduceToNat L3.z0t L3.y9r L3.y9q L3.y9p L3.y9o L3.y9n L3.z3t L3.z5t L3.z8y L3.z8z L3.z6u L3.z5c L3.y2l and_true true_and and_self List.map_cons List.map_nil List.length_cons List.length_nil List.length_map List.length_range List.length_set List.length_append List.length_replicate List.cons_append List.nil_append List.append_assoc List.replicate List.set_cons_zero List.set_cons_succ List.getElem?_cons_zero List.getElem?_cons_succ L3.ints?_map L3.bools?_map L3.z7b L3.z3z L3.z9l L3.y3b Nat.reduceAdd Nat.reduceSub Nat.reduceMul Int.reduceAdd Int.reduceSub Int.reduceMul Int.reduceNeg Int.toNat_natCast L3.z3r L3.z4i L3.z3x L3.z5o L3.z5n L3.z4j Option.map_some Int.add_zero Nat.reduceEqDiff Nat.reduceLeDiff Nat.zero_add Nat.add_zero Nat.sub_zero Nat.sub_self" ++ e).splitOn " ").toArray.mapM fun n => `(Lean.Parser.Tactic.simpLemma| $(Lean.mkIdent n.toName):term); `(tactic| try simp (disch := first | decide | omega | exact z3t _ | exact z5t _ | exact z4p _ | exact z1n _ | exact z5l _ _ | exact z1s (by omega) | exact ⟨z1s (by omega), z1s (by omega)⟩ | exact z5b (by first | assumption | exact z3d (by omega)) | exact z5a (by first | assumption | exact z3d (by omega)) | assumption) only [$l,*])
local macro_rules | `(tactic| walk_at "ev") => wkL ""
noncomputable def z7n(ns:List Int)(k:Int):Int:=(ns[k.toNat]?).getD 0
theorem y5g{ns:List Int}{k:Int}(h0:0<=k)(h:k<(ns.length:Int)):atI (ns.map D.int) k=some (.int (z7n ns k)):=by
 rw[x1g h0,List.getElem?_map]
 unfold z7n
 rw[List.getElem?_eq_getElem (by lia)];rfl
theorem x3g{ns:List Int}{k:Int}(h0:0<=k)(h:¬k<(ns.length:Int)):z7n ns k=0:=by
 unfold z7n
 rw[List.getElem?_eq_none (by lia)];rfl
theorem y5o{ns:List Int}{k:Int}(h0:0<=k):c_z [.lst (ns.map D.int),.int k] = .ok (.int (z7n ns k)):=by
 unfold c_z g_z
 by_cases h:k<(ns.length:Int)
 ·have e1:=y5g h0 h
  have e2:decide (k<(ns.length:Int))=true:=decide_eq_true h
  walk_at "ev"
  simp only[e1,e2]
  walk_at "ev"
 ·have e2:decide (k<(ns.length:Int))=false:=decide_eq_false h
  have e3:=x3g h0 h
  walk_at "ev"
  simp only[e2,e3]
  walk_at "ev"
noncomputable def z3m:D->Bool
 | .int _=>true
 | _=>false
theorem x4x{d:D}(h:d.noX=true):c_n [d] = .ok (.bl (z3m d)):=by
 unfold c_n g_n
 cases d<;>first | rfl | (simp[D.noX] at h)
theorem z8e(i:Int):c_n [.int i] = .ok (.bl true):=x4x rfl
noncomputable def z4c(P:Int):Nat->Int->List Int
 | 0,_=>[]
 | n+1,c=>c%P::z4c P n (c/P)
theorem z5z(P:Int):∀(n:Nat) (c:Int),(z4c P n c).length=n
 | 0,_=>rfl
 | n+1,c=>by rw[z4c,List.length_cons,z5z P n]
noncomputable def onW(P:Int)(ns:List Int):Prop:=∀n∈ns,0<=n/\n<P
theorem y0o{P:Int}(hp:0<P):∀(n:Nat) (c:Int),onW P (z4c P n c)
 | 0,_=>fun x hx=>by simp[z4c] at hx
 | n+1,c=>fun x hx=>by
   rw[z4c] at hx
   rcases List.mem_cons.mp hx with e | e
   ·subst e;exact⟨y4z hp,y5a hp⟩
   ·exact y0o hp n _ x e
noncomputable def divs(P:Int):Nat->Int->Int
 | 0,c=>c
 | n+1,c=>divs P n c/P
noncomputable def digs(P:Int)(n:Nat)(c:Int):List Int:=(List.range n).map fun i=>divs P i c%P
theorem x0t(P:Int)(n:Nat)(c:Int):digs P (n+1) c=digs P n c++[divs P n c%P]:=by
 unfold digs;rw[List.range_succ,List.map_append];rfl
theorem x0s(P:Int):∀(n:Nat) (c:Int),divs P (n+1) c=divs P n (c/P)
 | 0,c=>rfl
 | n+1,c=>by rw[divs,x0s P n c];rfl
theorem x0u(P:Int):∀(n:Nat) (c:Int),digs P n c=z4c P n c
 | 0,c=>rfl
 | n+1,c=>by
   rw[z4c,<-x0u P n (c/P)]
   unfold digs
   rw[List.range_succ_eq_map,List.map_cons,List.map_map]
   congr 1
   apply List.map_congr_left
   intro i _
   show divs P (i+1) c%P=_
   rw[x0s]
theorem z8f{c P n:Int}(h1:0<P)(h2:P<1000000)(h3:0<=n)(h4:n<=20):c_g [.int c,.int P,.int n] = .ok (.tup ((z4c P n.toNat c).map D.int)):=by
 unfold c_g g_g
 walk_at "ev"
 rw[y4y (fun j=>[.ro (.int (divs P j c)),.ro (.int P),.ro (.int n),.own ((digs P j c).map D.int),(match j with | 0=>.no | k+1=>.ro (.int (0+(k:Int))))])]
 ·walk_at "ev"
  rw[x0u]
 ·rfl
 ·intro j hj
  have hl:(digs P j c).length<=100000:=by unfold digs;simp;lia
  walk_at "ev"
  rw[x0t]
  simp[divs]
noncomputable def z2h(n:Int):Bool:=((List.range 98).filterMap fun(i:Nat)=>if 2+(i:Int)<n then some (n%(2+(i:Int))==0) else none).any fun b=>b
theorem z7j(n:Int):z2h n=true↔∃b:Int,2<=b/\b<100/\b<n/\n%b=0:=by
 unfold z2h
 simp only[List.any_eq_true,List.mem_filterMap,List.mem_range]
 constructor
 ·rintro⟨x,⟨i,hi,e⟩,hx⟩
  by_cases q:2+(i:Int)<n
  ·rw[if_pos q] at e;cases e
   exact⟨2+i,by lia,by lia,q,by simpa using hx⟩
  ·rw[if_neg q] at e;cases e
 ·rintro⟨b,h1,h2,h3,h4⟩
  refine⟨true,⟨(b-2).toNat,by lia,?_⟩,rfl⟩
  have e:(2+(((b-2).toNat:Nat):Int))=b:=by lia
  rw[e,if_pos h3,h4];rfl
theorem y3h{f:D->R (Option D)}{lo:Int}{n:Nat}{h:Nat->Option Bool}(q:∀i,i<n->f (.int (lo+(i:Int))) = .ok ((h i).map D.bl)):z1k f (z3e lo n) [] = .ok (((List.range n).filterMap h).map D.bl):=by
 unfold z3e
 rw[y0c (h:=fun i=>(h i).map D.bl) fun i hi=>q i (List.mem_range.mp hi),List.map_filterMap]
theorem x3a{n c:Int}(Γ:G):gT (z0i dAny (gCons (gL (z2q (y1i (gC (.int 2)) (gC (.int 100))) (z8c (gT (gBin dLt (gV 0) (gV 2))) (gNL (gBin dEq (gBin dMod (gV 2) (gV 0)) (gC (.int 0))))))) gNil)) (.ro (.int c) :: .ro (.int n)::Γ) = .ok (z2h n):=by
 walk_at "ev"
 rw[y3h (h:=fun(i:Nat)=>if 2+(i:Int)<n then some (n%(2+(i:Int))==0) else none)]
 ·walk_at "ev";rfl
 ·intro i hi
  walk_at "ev"
  by_cases q:2+(i:Int)<n
  ·simp only[decide_eq_true q,if_pos q]
   walk_at "ev"
  ·simp only[decide_eq_false q,if_neg q]
   rfl
theorem y1u{k:Int}(h0:0<=k)(h1:k<8):∃p:Int,atI (([3,5,7,11,13,17,19,23]:List Int).map D.int) k=some (.int p)/\3<=p/\p<=23/\z2h p=false:=by
 have:k=0∨k=1∨k=2∨k=3∨k=4∨k=5∨k=6∨k=7:=by lia
 rcases this with rfl | rfl | rfl | rfl | rfl | rfl | rfl | rfl
 ·exact⟨3,rfl,by decide,by decide,by decide +kernel⟩
 ·exact⟨5,rfl,by decide,by decide,by decide +kernel⟩
 ·exact⟨7,rfl,by decide,by decide,by decide +kernel⟩
 ·exact⟨11,rfl,by decide,by decide,by decide +kernel⟩
 ·exact⟨13,rfl,by decide,by decide,by decide +kernel⟩
 ·exact⟨17,rfl,by decide,by decide,by decide +kernel⟩
 ·exact⟨19,rfl,by decide,by decide,by decide +kernel⟩
 ·exact⟨23,rfl,by decide,by decide,by decide +kernel⟩
theorem s_M(c:Int):∃p:Int,c_t [.int c] = .ok (.int p)/\3<=p/\p<=9973/\z2h p=false:=by
 unfold c_t g_t
 by_cases h:c%2=0
 ·have h0:0<=c/2%8:=by lia
  obtain⟨p,e,h1,h2,h3⟩:=y1u (k:=c/2%8) (by lia) (by lia)
  refine⟨p,?_,h1,by lia,h3⟩
  have hb:(c%2==0)=true:=by simpa using h
  have hm:0<=c/2%8/\c/2%8<8:=by lia
  walk_at "ev"
  simp only[hb]
  simp only[List.map_cons,List.map_nil] at e
  walk_at "ev"
  simp only[e]
  rfl
 ·have hb:(c%2==0)=false:=by simpa using h
  have key:∀(n m:Nat) (Γ:G),m<n->(∃z:Int,Γ=[.ro (.int c),.ro (.int z)]/\3<=z/\z<=9973/\(9973-z).toNat=m) ->
   ∃z:Int,whGo (gT (z0i dAny (gCons (gL (z2q (y1i (gC (.int 2)) (gC (.int 100))) (z8c (gT (gBin dLt (gV 0) (gV 2))) (gNL (gBin dEq (gBin dMod (gV 2) (gV 0)) (gC (.int 0))))))) gNil))) (gSet 1 (gNL (gBin dAdd (gV 1) (gC (.int 1))))) n Γ = .ok (.nx [.ro (.int c),.ro (.int z)])/\3<=z/\z<=9973/\z2h z=false:=by
   refine y0t _ (fun r=>∃z:Int,r = .ok (.nx [.ro (.int c),.ro (.int z)])/\3<=z/\z<=9973/\z2h z=false) ?_
   rintro m Γ ⟨z,rfl,h1,h2,h3⟩
   rw[x3a]
   cases q:z2h z with
   | false=>exact .inl ⟨rfl,z,rfl,h1,h2,q⟩
   | true =>
     have hz:z≠9973:=fun e=>by rw[e] at q;exact absurd q (by decide +kernel)
     refine .inr ⟨rfl,.inl ⟨[.ro (.int c),.ro (.int (z+1))],(9973-(z+1)).toNat,by lia,.inl ?_,z+1,rfl,by lia,by lia,rfl⟩⟩
     walk_at "ev"
  have hz:3<=3+c/2%9971/\3+c/2%9971<=9973:=by lia
  obtain⟨z,e,h1,h2,h3⟩:=key 10000 (9973-(3+c/2%9971)).toNat [.ro (.int c),.ro (.int (3+c/2%9971))] (by lia) ⟨_,rfl,hz.1,hz.2,rfl⟩
  refine⟨z,?_,h1,h2,h3⟩
  walk_at "ev"
  simp only[hb]
  walk_at "ev"
  rw[e]
  walk_at "ev"
theorem s_on{P n:Int}(h:0<P):c_on [.int P,.int n] = .ok (.int (n%P)):=by
 unfold c_on g_on
 walk_at "ev"
noncomputable def fits(l:List Int):Prop:=∀n∈l,y1m n
theorem onW.fits{P:Int}{l:List Int}(h:onW P l)(hp:P<18446744073709551616):fits l:=fun n hn=>by
 have:=h n hn
 exact⟨by lia,by lia⟩
noncomputable def rowD(r:List Int):D:=.tup (r.map D.int)
theorem y5p(r:List Int):rowD r = .tup (r.map D.int):=rfl
theorem z5k(r:List Int):(rowD r).noL=true:=z4p r
theorem y1g(n:Nat)(r:List Int):D.lay (n+1) (rowD r)=true:=z5l n r
theorem x3x(r:List Int):D.pl (rowD r)=true:=x5l r
theorem z9c:∀{a b:List Int},a.map D.int=b.map D.int->a=b
 | [],[],_=>rfl
 | [],_::_,h=>by simp at h
 | _::_,[],h=>by simp at h
 | x::a,y::b,h=>by simp at h;rw[h.1,z9c h.2]
theorem x1x{a b:List Int}(h:rowD a=rowD b):a=b:=z9c (by unfold rowD at h;simpa using h)
theorem z9k(a b:List Int):eqD (rowD a) (rowD b)=decide (a=b):=x6w (x3x a) (x3x b) ⟨x1x,fun h=>by rw[h]⟩
theorem z8k(a b:List Int):eqD (.tup (a.map D.int)) (.tup (b.map D.int))=decide (a=b):=z9k a b
noncomputable def x9z(c:List D->R D):Prop:=∀ns:List Int,ns.length<=63->c [.lst (ns.map D.int)] = .ok (.bl true)
theorem y4q{α:Type}(l:List α)(f:α->Int):l.map (fun x=>D.int (f x))=(l.map f).map D.int:=by rw[List.map_map];rfl
theorem y1t(lo st:Int)(n:Nat):(z7e lo st n).length=n:=by unfold z7e;simp
theorem y8i{lo st:Int}{n j:Nat}{d:D}(h:(z7e lo st n)[j]? = some d):j<n/\d = .int (lo+st*(j:Int)):=by
 have hj:j<n:=by
  have:=(List.getElem?_eq_some_iff.mp h).1
  rw[y1t] at this;exact this
 refine⟨hj,?_⟩
 unfold z7e at h
 rw[List.getElem?_map,List.getElem?_range hj] at h
 cases h;rfl
noncomputable section
noncomputable def g_B:G->R Fl :=
 (gRet (z4w (gIsi z5y (gV 0)) (y2v (gIsi z4b (gV 0)))))
noncomputable def c_B:List D->R D:=fnC 1 1 g_B
noncomputable def g_J:G->R Fl :=
 (gRet (z4w (z0i c_B (gCons (gV 0) gNil)) (z4w (gBin dLe (gV 1) (gV 0)) (gBin dLe (gV 0) (gV 2)))))
noncomputable def c_J:List D->R D:=fnC 3 3 g_J
noncomputable def g_d:G->R Fl :=
 (gSt (gSet 1 (gNL (gC (.int 2))))
 (gSt (whGo (gT (gBin dLe (gBin dMul (gV 1) (gV 1)) (gV 0))) (gSt (gIfS (gT (gBin dEq (gBin dMod (gV 0) (gV 1)) (gC (.int 0)))) (gRet (gV 1)) z1q)
 (gSet 1 (gNL (gBin dAdd (gV 1) (gC (.int 1)))))) 10000)
 (gRet (gV 0))))
noncomputable def c_d:List D->R D:=fnC 1 2 g_d
noncomputable def g_G:G->R Fl :=
 (gRet (z4w (z0i c_J (gCons (gV 0) (gCons (gC (.int 3)) (gCons (gC (.int 9999)) gNil)))) (gBin dEq (z0i c_d (gCons (gV 0) gNil)) (gV 0))))
noncomputable def c_G:List D->R D:=fnC 1 1 g_G
noncomputable def g_M:G->R Fl :=
 (gSt (gIfS (gNot (gT (z0i c_G (gCons (gV 0) gNil)))) (z2d .noPrime) z1q)
 (gRet (gV 0)))
noncomputable def c_M:List D->R D:=fnC 1 1 g_M
end
local macro_rules | `(tactic| walk_at "evs") => wkL " L3.y5o L3.z8f L3.z8e L3.s_on L3.z3m L3.y1g L3.z9k L3.z8k L3.z5k"
theorem s_B{d:D}(h:d.noX=true):c_B [d] = .ok (.bl (z3m d)):=by
 unfold c_B g_B
 cases d<;>first | rfl | (simp[D.noX] at h)
noncomputable def LDiv(n q:Int):Prop:=(n=1/\q=1)∨(2<=q/\q<=n/\n%q=0/\∀e:Int,2<=e->e<q->n%e≠0)
theorem y6k{n b:Int}(hn:1<=n)(b1:2<=b)(b2:b<n)(hb:n%b=0):n=b*(n/b)/\2<=n/b/\n/b<n/\n%(n/b)=0:=by
 have e1:n=b*(n/b):=by have:=Int.emod_add_mul_ediv n b;lia
 generalize hq:n/b=q at *
 have q0:0<q:=by
  rcases Int.lt_trichotomy 0 q with z | z | z
  ·exact z
  ·rw[<-z] at e1;simp at e1;lia
  ·have:b*q<0:=Int.mul_neg_of_pos_of_neg (by lia) z
   lia
 have q1:q≠1:=fun z=>by rw[z] at e1;lia
 have q2:2*q<=b*q:=Int.mul_le_mul_of_nonneg_right b1 (by lia)
 exact⟨e1,by lia,by lia,by rw[e1];exact Int.mul_emod_left b q⟩
theorem x5z{n d:Int}(h1:1<=n)(d1:2<=d)(hq:¬d*d<=n)(hd:∀e:Int,2<=e->e<d->n%e≠0):LDiv n n:=by
 by_cases hn:n=1
 ·exact .inl ⟨hn,hn⟩
 refine .inr ⟨by lia,by lia,Int.emod_self,fun e e1 e2 z=>?_⟩
 obtain⟨c1,c2,c3,c4⟩:=y6k h1 e1 e2 z
 have e3:d<=e:=by
  rcases Int.lt_or_le e d with w | w
  ·exact absurd z (hd e e1 w)
  ·exact w
 have e4:d<=n/e:=by
  rcases Int.lt_or_le (n/e) d with w | w
  ·exact absurd c4 (hd _ c2 w)
  ·exact w
 have:d*d<=e*(n/e):=Int.mul_le_mul e3 e4 (by lia) (by lia)
 lia
theorem y3c{n:Int}(h1:1<=n)(h2:n<=100000000):∀(k m:Nat) (Γ:G),m<k ->
 (∃d:Int,Γ=[.ro (.int n),.ro (.int d)]/\2<=d/\d<=10001/\(∀e:Int,2<=e->e<d->n%e≠0)/\(10001-d).toNat=m) ->
 (∃q,LDiv n q/\whGo (gT (gBin dLe (gBin dMul (gV 1) (gV 1)) (gV 0))) (gSt (gIfS (gT (gBin dEq (gBin dMod (gV 0) (gV 1)) (gC (.int 0)))) (gRet (gV 1)) z1q) (gSet 1 (gNL (gBin dAdd (gV 1) (gC (.int 1)))))) k Γ = .ok (.rt (.int q))) ∨
 (LDiv n n/\∃x,whGo (gT (gBin dLe (gBin dMul (gV 1) (gV 1)) (gV 0))) (gSt (gIfS (gT (gBin dEq (gBin dMod (gV 0) (gV 1)) (gC (.int 0)))) (gRet (gV 1)) z1q) (gSet 1 (gNL (gBin dAdd (gV 1) (gC (.int 1)))))) k Γ = .ok (.nx [.ro (.int n),x])):=by
 refine y0t _ (fun r=>(∃q,LDiv n q/\r = .ok (.rt (.int q)))∨(LDiv n n/\∃x,r = .ok (.nx [.ro (.int n),x]))) ?_
 rintro m Γ ⟨d,rfl,d1,d2,hd,hm⟩
 by_cases hq:d*d<=n
 ·have e1:decide (d*d<=n)=true:=decide_eq_true hq
  have d3:d<10001:=by
   rcases Int.lt_or_le d 10001 with z | z
   ·exact z
   ·have:10001*10001<=d*d:=Int.mul_le_mul z z (by lia) (by lia)
    lia
  refine .inr ⟨by walk_at "evs";simp only[e1],?_⟩
  by_cases hz:n%d=0
  ·have e2:(n%d==0)=true:=by simpa using hz
   have d5:2*d<=d*d:=Int.mul_le_mul_of_nonneg_right d1 (by lia)
   refine .inr (.inr (.inl ⟨.int d,?_,.inl ⟨d,.inr ⟨d1,by lia,hz,hd⟩,rfl⟩⟩))
   refine x3j (y2o (by walk_at "evs";simp only[e2]) ?_)
   exact z2g (by walk_at "evs")
  ·have e2:(n%d==0)=false:=by simpa using hz
   refine .inl ⟨[.ro (.int n),.ro (.int (d+1))],(10001-(d+1)).toNat,by lia,.inl ?_,d+1,rfl,by lia,by lia,fun e z1 z2=>?_,rfl⟩
   ·refine z1f (by walk_at "evs";simp only[e2]) ?_
    refine y2n ?_
    walk_at "evs"
   ·by_cases ee:e=d
    ·rw[ee];exact hz
    ·exact hd e z1 (by lia)
 ·have e1:decide (d*d<=n)=false:=decide_eq_false hq
  exact .inl ⟨by walk_at "evs";simp only[e1],.inr ⟨x5z h1 d1 hq hd,_,rfl⟩⟩
theorem x5a{n:Int}(h1:1<=n)(h2:n<=100000000):∃q,LDiv n q/\c_d [.int n] = .ok (.int q):=by
 rcases y3c h1 h2 10000 (10001-2:Int).toNat [.ro (.int n),.ro (.int 2)] (by decide) ⟨2,rfl,by lia,by lia,fun e z1 z2=>by lia,rfl⟩ with ⟨q,hl,e⟩ | ⟨hl,x,e⟩
 ·refine⟨q,hl,z1g rfl ?_⟩
  delta g_d
  refine z1x (d:=.int 2) (by walk_at "evs") ?_
  exact x3j e
 ·refine⟨n,hl,z1g rfl ?_⟩
  delta g_d
  refine z1x (d:=.int 2) (by walk_at "evs") ?_
  exact y0d e (z2g (by walk_at "evs"))
theorem x0b{n q:Int}(h1:3<=n)(h2:n<=9999)(h:LDiv n q):(q==n)=!z2h n:=by
 rcases h with ⟨z,_⟩ | ⟨q1,q2,q3,q4⟩
 ·lia
 by_cases e:q=n
 ·subst e
  have:z2h q=false:=by
   cases w:z2h q with
   | false=>rfl
   | true =>
     obtain⟨b,b1,b2,b3,b4⟩:=(z7j _).mp w
     exact absurd b4 (q4 b b1 b3)
  rw[this];simp
 ·have:z2h n=true:=by
   obtain⟨c1,c2,c3,c4⟩:=y6k (by lia) q1 (by lia) q3
   by_cases w:q<100
   ·exact(z7j _).mpr ⟨q,q1,w,by lia,q3⟩
   ·refine(z7j _).mpr ⟨n/q,c2,?_,c3,c4⟩
    rcases Int.lt_or_le (n/q) 100 with z | z
    ·exact z
    ·have:100*100<=q*(n/q):=Int.mul_le_mul (by lia) z (by lia) (by lia)
     lia
  rw[this]
  simp[e]
noncomputable def x7n(n:Int):Bool:=decide (3<=n)&&(decide (n<=9999)&&!z2h n)
noncomputable def y5r:D->Bool
 | .int n=>x7n n
 | _=>false
noncomputable def y4x(d:D)(a b:Int):Bool :=
 match d with
 | .int n=>decide (a<=n)&&decide (n<=b)
 | _=>false
theorem s_J{d:D}{a b:Int}(h:d.noX=true):c_J [d,.int a,.int b] = .ok (.bl (y4x d a b)):=by
 refine z1g rfl ?_
 delta g_J
 refine z2g ?_
 have hw:=s_B h
 cases hd:z3m d with
 | false =>
   rw[hd] at hw
   have:y4x d a b=false:=by cases d<;>first | rfl | (simp[z3m] at hd)
   rw[this]
   walk_at "evs"
   simp only[hw]
   walk_at "evs"
 | true =>
   rw[hd] at hw
   cases d with
   | int n =>
     walk_at "evs"
     simp only[hw]
     walk_at "evs"
     by_cases h3:a<=n
     ·have e1:decide (a<=n)=true:=decide_eq_true h3
      simp only[e1]
      walk_at "evs"
      show _=R.ok (D.bl (decide (a<=n)&&decide (n<=b)))
      rw[e1];rfl
     ·have e1:decide (a<=n)=false:=decide_eq_false h3
      simp only[e1]
      walk_at "evs"
      show _=R.ok (D.bl (decide (a<=n)&&decide (n<=b)))
      rw[e1];rfl
   | _=>simp[z3m] at hd
theorem s_G{d:D}(h:d.noX=true):c_G [d] = .ok (.bl (y5r d)):=by
 refine z1g rfl ?_
 delta g_G
 refine z2g ?_
 have hw:=s_J (a:=3) (b:=9999) h
 cases hd:y4x d 3 9999 with
 | false =>
   rw[hd] at hw
   have:y5r d=false:=by
    cases d<;>first | rfl | skip
    rename_i n
    have hd:(decide (3<=n)&&decide (n<=9999))=false:=hd
    show(decide (3<=n)&&(decide (n<=9999)&&!z2h n))=false
    simp only[Bool.and_eq_false_imp,decide_eq_true_eq,decide_eq_false_iff_not] at hd
    by_cases h3:3<=n
    ·rw[decide_eq_false (hd h3)];simp
    ·rw[decide_eq_false h3];rfl
   rw[this]
   walk_at "evs"
   simp only[hw]
   walk_at "evs"
 | true =>
   rw[hd] at hw
   cases d with
   | int n =>
     have hd:(decide (3<=n)&&decide (n<=9999))=true:=hd
     simp only[Bool.and_eq_true,decide_eq_true_eq] at hd
     obtain⟨q,hq,e3⟩:=x5a (n:=n) (by lia) (by lia)
     have e4:=x0b (by lia) (by lia) hq
     walk_at "evs"
     simp only[hw]
     walk_at "evs"
     simp only[e3]
     walk_at "evs"
     rw[e4]
     show _=R.ok (D.bl (decide (3<=n)&&(decide (n<=9999)&&!z2h n)))
     rw[decide_eq_true (show 3<=n by lia),decide_eq_true (show n<=9999 by lia)];rfl
   | _=>simp[y4x] at hd
theorem x1t{d:D}(h:d.noX=true)(hp:y5r d=true):c_M [d] = .ok d:=by
 refine z1g rfl ?_
 delta g_M
 have e:=s_G h
 rw[hp] at e
 refine z1f (by walk_at "evs";simp only[e];walk_at "evs") (z2g ?_)
 walk_at "evs"
noncomputable section
noncomputable def g_k:G->R Fl :=
 (gRet (gBin dIx (gL (gLst (gCons (gBin dMod (gBin dDiv (gV 0) (gC (.int 3))) (gC (.int 5))) (gCons (gBin dMod (gBin dDiv (gV 0) (gC (.int 3))) (gC (.int 1000))) (gCons (gBin dMod (gBin dDiv (gV 0) (gC (.int 3))) (gBin dAdd (gBin dPow (gC (.int 10)) (gC (.int 30))) (gC (.int 1)))) gNil))))) (gBin dMod (gV 0) (gC (.int 3)))))
noncomputable def c_k:List D->R D:=fnC 1 1 g_k
noncomputable def g_F:G->R Fl :=
 (gSt (gSet 4 (gNL (gBin dMod (gV 0) (gV 3))))
 (gSt (gSet 5 (gNL (z0i c_g (gCons (gV 1) (gCons (gV 2) (gCons (gBin dAdd (gV 3) (gC (.int 1))) gNil))))))
 (gSt (gIfS (gAnd (gT (gBin dEq (gBin dIx (gV 5) (gV 4)) (gC (.int 0)))) (gT (gBin dGt (gBin dMod (gBin dDiv (gV 0) (gC (.int 3))) (gC (.int 6))) (gC (.int 0))))) (gSet 5 (gNL (gBin dAdd (gBin dAdd (gSl (gV 5) gON (gOS (gV 4))) (gTup (gCons (gBin dAdd (gC (.int 1)) (gBin dMod (gBin dDiv (gV 0) (gC (.int 18))) (gBin dSub (gV 2) (gC (.int 1))))) gNil))) (gSl (gV 5) (gOS (gBin dAdd (gV 4) (gC (.int 1)))) gON)))) z1q)
 (gRet (gTup (gCons (gC (.str "set")) (gCons (gV 4) (gCons (gV 5) gNil))))))))
noncomputable def c_F:List D->R D:=fnC 4 6 g_F
noncomputable def g_m:G->R Fl :=
 (gSt (z3h 4 (gLst gNil))
 (gSt (z3h 5 (gLst gNil))
 (gSt (gFor 6 (y4v (gC (.int 0)) (gBin dSub (z0i dMin (gCons (z0i dLen (gCons (gV 0) gNil)) (gCons (gC (.int 60)) gNil))) (gC (.int 1))) (gC (.int 2)))
 (gSt (gSet 7 (gNL (gBin dSub (z0i dLen (gCons (gV 4) gNil)) (z0i dMin (gCons (gBin dMod (gBin dDiv (gBin dIx (gV 0) (gV 6)) (gC (.int 4))) (gC (.int 4))) (gCons (z0i dLen (gCons (gV 4) gNil)) gNil))))))
 (gSt (gSet 8 (gNL (gBin dAdd (gC (.int 1)) (z0i y7y (gCons (gL (z7k (gL (gLst (gCons (gC (.int 0)) gNil))) (gSl (gV 5) (gOS (gV 7)) gON))) gNil)))))
 (gIfS (gAnd (gT (gBin dEq (gBin dMod (gBin dIx (gV 0) (gV 6)) (gC (.int 4))) (gC (.int 3)))) (gAnd (gT (gBin dLt (gV 8) (gC (.int 4)))) (gT (gBin dGt (gV 3) (gC (.int 0)))))) (gSt (z3h 4 (z7k (gSl (gV 4) gON (gOS (gV 7))) (gL (gLst (gCons (gTup (gCons (gC (.str "again")) (gCons (z0i c_k (gCons (gBin dIx (gV 0) (gBin dAdd (gV 6) (gC (.int 1)))) gNil)) (gCons (z0i z2v (gCons (gSl (gV 4) (gOS (gV 7)) gON) gNil)) gNil)))) gNil)))))
 (gSt (z3h 5 (z7k (gSl (gV 5) gON (gOS (gV 7))) (gL (gLst (gCons (gV 8) gNil)))))
 (gSet 3 (gNL (gBin dSub (gV 3) (gC (.int 1))))))) (gSt (gApp 4 (gNL (z0i c_F (gCons (gBin dDiv (gBin dIx (gV 0) (gV 6)) (gC (.int 4))) (gCons (gBin dIx (gV 0) (gBin dAdd (gV 6) (gC (.int 1)))) (gCons (gV 1) (gCons (gV 2) gNil)))))))
 (gApp 5 (gNL (gC (.int 0)))))))))
 (gRet (z0i z2v (gCons (gV 4) gNil))))))
noncomputable def c_m:List D->R D:=fnC 4 9 g_m
end
noncomputable section
end
end L3
namespace L3
open PySem
local macro_rules | `(tactic| walk_at "evs") => wkL " L3.y5o L3.z8f L3.z8e L3.s_on L3.z3m L3.y1g L3.z9k L3.z8k L3.z5k L3.z9o L3.y0a"
inductive Item where
 | set (x:Int) (f:List Int)
 | again (n:Int) (its:List Item)
mutual
noncomputable def Item.d:Item->D
 | .set x f=>.tup [.str "set",.int x,rowD f]
 | .again n its=>.tup [.str "again",.int n,.tup (Item.ds its)]
noncomputable def Item.ds:List Item->List D
 | []=>[]
 | a::r=>a.d::Item.ds r
end
theorem Item.ds_map:∀its:List Item,Item.ds its=its.map Item.d
 | []=>rfl
 | a::r=>by rw[Item.ds,Item.ds_map r];rfl
mutual
noncomputable def Item.deep:Item->Nat
 | .set _ _=>0
 | .again _ its=>1+Item.deeps its
noncomputable def Item.deeps:List Item->Nat
 | []=>0
 | a::r=>max a.deep (Item.deeps r)
end
mutual
noncomputable def Item.many:Item->Nat
 | .set _ _=>1
 | .again _ its=>1+Item.manys its
noncomputable def Item.manys:List Item->Nat
 | []=>0
 | a::r=>a.many+Item.manys r
end
mutual
noncomputable def Item.ok(P many:Int):Item->Prop
 | .set x f=>0<=x/\x<many/\(f.length:Int)=many+1/\onW P f
 | .again n its=>0<=n/\n<=10^30/\Item.oks P many its
noncomputable def Item.oks(P many:Int):List Item->Prop
 | []=>True
 | a::r=>a.ok P many/\Item.oks P many r
end
theorem Item.oks_iff{P many:Int}:∀{its:List Item},Item.oks P many its↔∀a∈its,a.ok P many
 | []=>by simp[Item.oks]
 | a::r=>by simp[Item.oks,Item.oks_iff (its:=r)]
theorem Item.deeps_le{k:Nat}:∀{its:List Item},Item.deeps its<=k↔∀a∈its,a.deep<=k
 | []=>by simp[Item.deeps]
 | a::r=>by
   have:=Item.deeps_le (k:=k) (its:=r)
   simp only[Item.deeps,List.mem_cons,forall_eq_or_imp,<-this]
   lia
theorem Item.manys_append:∀{a b:List Item},Item.manys (a++b)=Item.manys a+Item.manys b
 | [],b=>by simp[Item.manys]
 | x::a,b=>by simp[Item.manys,Item.manys_append (a:=a)];lia
theorem Item.many_pos:∀a:Item,0<a.many
 | .set _ _=>by simp[Item.many]
 | .again _ _=>by simp[Item.many];lia
theorem Item.manys_length:∀its:List Item,its.length<=Item.manys its
 | []=>Nat.le_refl _
 | a::r=>by have:=a.many_pos;have:=Item.manys_length r;simp only[Item.manys,List.length_cons];lia
mutual
theorem Item.noL:∀a:Item,a.d.noL=true
 | .set x f=>by
   have:=z5k f
   simp[Item.d,D.noL,D.noLs,this]
 | .again n its=>by
   have:=Item.noLs its
   simp[Item.d,D.noL,D.noLs,this]
theorem Item.noLs:∀its:List Item,D.noLs (Item.ds its)=true
 | []=>rfl
 | a::r=>by
   have h1:=Item.noL a
   have h2:=Item.noLs r
   simp[Item.ds,D.noLs,h1,h2]
end
theorem Item.noLs'(its:List Item):D.noLs (its.map Item.d)=true:=by rw[<-Item.ds_map];exact Item.noLs its
theorem x5d(c:Int):∃n:Int,c_k [.int c] = .ok (.int n)/\0<=n/\n<=10^30:=by
 have hw:c%3=0∨c%3=1∨c%3=2:=by lia
 have t30:(0:Int)<10^30+1:=by decide
 have n3:D.noLs [D.int (c/3%5),D.int (c/3%1000),D.int (c/3%(10^30+1))]=true:=z1n [_,_,_]
 obtain⟨n,e,h1,h2⟩:∃n:Int,atI [D.int (c/3%5),D.int (c/3%1000),D.int (c/3%(10^30+1))] (c%3)=some (.int n)/\0<=n/\n<=10^30:=by
  rcases hw with w | w | w<;>rw[w]
  ·exact⟨_,rfl,by omega,by have:(5:Int)<=10^30:=by decide
                           lia⟩
  ·exact⟨_,rfl,by omega,by have:(1000:Int)<=10^30:=by decide
                           lia⟩
  ·refine⟨_,rfl,Int.emod_nonneg _ (by lia),?_⟩
   have:=Int.emod_lt_of_pos (c/3) t30
   exact Int.lt_add_one_iff.mp this
 refine⟨n,z1g rfl (z2g ?_),h1,h2⟩
 walk_at "evs"
 simp only[e]
theorem x4v{f:List Int}{x:Nat}{v P:Int}(hx:x<f.length)(hf:onW P f)(h0:0<=v)(hv:v<P):∃g:List Int,f.take x++[v]++f.drop (x+1)=g/\g.length=f.length/\onW P g/\g[x]? = some v:=by
 refine⟨_,rfl,?_,fun n hn=>?_,?_⟩
 ·simp only[List.length_append,List.length_take,List.length_drop,List.length_cons,List.length_nil];lia
 ·simp only[List.mem_append,List.mem_singleton] at hn
  rcases hn with (h | h) | h
  ·exact hf n (List.mem_of_mem_take h)
  ·rw[h];exact⟨h0,hv⟩
  ·exact hf n (List.mem_of_mem_drop h)
 ·rw[List.append_assoc,List.getElem?_append_right (by rw[List.length_take];lia),List.length_take,Nat.min_eq_left (by lia),Nat.sub_self];rfl
theorem x9b{c m P many:Int}(p1:3<=P)(p2:P<=9973)(m1:1<=many)(m2:many<=3):∃(x:Int) (f:List Int),c_F [.int c,.int m,.int P,.int many] = .ok (Item.set x f).d/\(Item.set x f).ok P many:=by
 have hl:=z5z P (many+1).toNat m
 have ho:=y0o (P:=P) (by lia) (many+1).toNat m
 have hx0:=y4z (w:=c) (P:=many) (by lia)
 have hx1:=y5a (w:=c) (P:=many) (by lia)
 generalize hf:z4c P (many+1).toNat m=f at hl ho
 obtain⟨x,ex⟩:∃x:Nat,c%many=(x:Int):=⟨(c%many).toNat,by lia⟩
 have hx:x<f.length:=by lia
 have start:∀u r,u [.ro (.int c),.ro (.int m),.ro (.int P),.ro (.int many),.ro (.int x),.ro (rowD f)]=r->gSt (gSet 4 (gNL (gBin dMod (gV 0) (gV 3)))) (gSt (gSet 5 (gNL (z0i c_g (gCons (gV 1) (gCons (gV 2) (gCons (gBin dAdd (gV 3) (gC (.int 1))) gNil)))))) u) [.ro (.int c),.ro (.int m),.ro (.int P),.ro (.int many),.no,.no]=r:=fun u r h=>by
  refine z1x (d:=.int x) (by walk_at "evs";rw[ex]) (z1x (d:=rowD f) (by walk_at "evs";rw[hf];rfl) h)
 have at0:atI (f.map D.int) (x:Int)=some (.int (f[x]'hx)):=by
  rw[x1g (by lia),List.getElem?_map,Int.toNat_natCast,List.getElem?_eq_getElem hx];rfl
 by_cases hz:(f[x]'hx==0&&decide (0<c/3%6))=true
 ·have hv0:=y4z (w:=c/18) (P:=P-1) (by lia)
  have hv1:=y5a (w:=c/18) (P:=P-1) (by lia)
  obtain⟨g,eg,gl,go,_⟩:=x4v (v:=1+c/18%(P-1)) hx ho (by lia) (by lia)
  rw[Bool.and_eq_true] at hz
  refine⟨x,g,z1g rfl ?_,by simp only[Item.ok];exact⟨by lia,by lia,by lia,go⟩⟩
  delta g_F
  refine start _ _ (x1e (Γ':=[.ro (.int c),.ro (.int m),.ro (.int P),.ro (.int many),.ro (.int x),.ro (rowD g)]) ?_ ?_ ?_)
  ·walk_at "evs"
   simp only[rowD,dIx,at0]
   walk_at "evs"
   simp only[hz.1,hz.2]
   walk_at "evs"
  ·refine(y2n (d:=rowD g) ?_).trans rfl
   have ex1:(x:Int)+1=((x+1:Nat):Int):=rfl
   have hlen:f.length<=4:=by lia
   walk_at "evs"
   simp only[rowD,dCut,R.bind_ok]
   rw[ex1,y5d,z7c,<-List.map_take,<-List.map_drop]
   have lt:(f.take x).length<=4:=by rw[List.length_take];lia
   have ld:(f.drop (x+1)).length<=4:=by rw[List.length_drop];lia
   have e2:(f.take x).map D.int++(D.int (1+c/18%(P-1))::(f.drop (x+1)).map D.int)=g.map D.int:=by rw[<-eg];simp
   have n2:=z4p g
   walk_at "evs"
   rw[e2]
   walk_at "evs"
  ·exact z2g (by walk_at "evs";rfl)
 ·refine⟨x,f,z1g rfl ?_,by simp only[Item.ok];exact⟨by lia,by lia,by lia,ho⟩⟩
  delta g_F
  refine start _ _ (z1f ?_ (z2g (by walk_at "evs";rfl)))
  walk_at "evs"
  simp only[rowD,dIx,at0]
  walk_at "evs"
  cases q:(f[x]'hx==0) with
  | false=>simp
  | true =>
    rw[q,Bool.true_and] at hz
    simp[hz]
noncomputable def z2a(its:List Item):List Int:=its.map fun a=>(a.deep:Int)
theorem y7x(its:List Item):maxI (0::z2a its)=(Item.deeps its:Int):=by
 refine Eq.symm (y2g ?_ ?_)
 ·induction its with
  | nil=>simp[Item.deeps]
  | cons a r ih =>
    simp only[Item.deeps,z2a,List.map_cons,List.mem_cons]
    by_cases h:Item.deeps r<=a.deep
    ·rw[Nat.max_eq_left h];exact .inr (.inl rfl)
    ·rw[Nat.max_eq_right (by lia)]
     rcases List.mem_cons.mp ih with e | e
     ·exact .inl e
     ·exact .inr (.inr e)
 ·intro b hb
  rcases List.mem_cons.mp hb with rfl | hb
  ·lia
  ·obtain⟨a,ha,rfl⟩:=List.mem_map.mp hb
   have:=Item.deeps_le.mp (Nat.le_refl (Item.deeps its)) a ha
   lia
theorem forI{gb:G->R Fl}{i:Nat}{ds:List D}{Γ:G}(I:Nat->G->Prop)(h0:I 0 Γ)(hq:∀(j:Nat) (d:D) (Γ:G),ds[j]? = some d->I j Γ->Ends (gb (Γ.set i (.ro d))) (I (j+1))):∃Γ',z2y gb i ds Γ = .ok (.nx Γ')/\I ds.length Γ':=by
 obtain⟨Γ',e,h'⟩:=z6z I ds 0 Γ h0 fun j d Γ hd hI=>by rw[Nat.zero_add] at hI ⊢;exact hq j d Γ hd hI
 rw[Nat.zero_add] at h'
 exact⟨Γ',e,h'⟩
theorem x1f{gs:G->R (List D)}{gb u:G->R Fl}{i:Nat}{ds:List D}{Γ:G}(T:R Fl->Prop)(I:Nat->G->Prop)(hi:gs Γ = .ok ds)(h0:I 0 Γ)(hq:∀(j:Nat) (d:D) (Γ:G),ds[j]? = some d->I j Γ->Ends (gb (Γ.set i (.ro d))) (I (j+1)))(h:∀Γ',I ds.length Γ'->T (u Γ')):T (gSt (gFor i gs gb) u Γ):=by
 obtain⟨Γ',e,h'⟩:=forI I h0 hq
 rw[x4q hi e rfl];exact h Γ' h'
theorem x1v{cs:List Int}{P many ag:Int}(p1:3<=P)(p2:P<=9973)(m1:1<=many)(m2:many<=3)(hcs:cs.length<=63) :
 ∃its:List Item,c_m [.lst (cs.map D.int),.int P,.int many,.int ag] = .ok (.tup (its.map Item.d))/\Item.oks P many its/\Item.deeps its<=3/\Item.manys its<=30/\2*Item.manys its<=cs.length:=by
 suffices h:∃its:List Item,g_m [.ro (.lst (cs.map D.int)),.ro (.int P),.ro (.int many),.ro (.int ag),.no,.no,.no,.no,.no] = .ok (.rt (.tup (its.map Item.d)))/\Item.oks P many its/\Item.deeps its<=3/\Item.manys its<=30/\2*Item.manys its<=cs.length by
  obtain⟨its,e,h'⟩:=h
  exact⟨its,z1g rfl e,h'⟩
 delta g_m
 rw[z3w (ds:=[]) (by walk_at "evs") rfl,z3w (ds:=[]) (by walk_at "evs") rfl]
 let I:Nat->G->Prop:=fun j Γ=>∃(its:List Item) (a:Int) (x6 x7 x8:En),Γ=[.ro (.lst (cs.map D.int)),.ro (.int P),.ro (.int many),.ro (.int a),.own (its.map Item.d),.own ((z2a its).map D.int),x6,x7,x8]/\Item.oks P many its/\Item.deeps its<=3/\Item.manys its<=j
 obtain⟨n,hn,hn2,en⟩:∃n:Nat,n<=30/\2*n<=cs.length/\z6m 0 ((if (60:Int)<cs.length then 60 else (cs.length:Int))-1) 2=n:=by
  refine⟨_,?_,?_,rfl⟩<;>unfold z6m<;>split<;>lia
 have hsl:(z7e 0 2 n).length=n:=by unfold z7e;simp
 refine x1f (ds:=z7e 0 2 n) (fun r=>∃its:List Item,r = .ok (.rt (.tup (its.map Item.d)))/\Item.oks P many its/\Item.deeps its<=3/\Item.manys its<=30/\2*Item.manys its<=cs.length) I ?_ ⟨[],ag,.no,.no,.no,rfl,True.intro,Nat.zero_le _,Nat.zero_le _⟩ ?turn ?_
 ·walk_at "evs"
  have r1:(-1073741824:Int)<=(if (60:Int)<cs.length then 60 else (cs.length:Int))-1/\(if (60:Int)<cs.length then 60 else (cs.length:Int))-1<1073741824:=by split<;>lia
  walk_at "evs"
  rw[en]
 case turn =>
  clear en hsl
  rintro j d Γ hd ⟨its,a,x6,x7,x8,rfl,h1,h2,h3⟩
  obtain⟨hj,rfl⟩:=y8i hd
  have hil:=Item.manys_length its
  have e0:(0:Int)+2*(j:Int)=((2*j:Nat):Int):=by lia
  rw[e0]
  have c0:=y5g (ns:=cs) (k:=((2*j:Nat):Int)) (by lia) (by lia)
  have c1:=y5g (ns:=cs) (k:=((2*j:Nat):Int)+1) (by lia) (by lia)
  generalize z7n cs ((2*j:Nat):Int)=y at c0
  generalize z7n cs (((2*j:Nat):Int)+1)=z at c1
  clear e0
  obtain⟨w,hw,ew⟩:∃w:Nat,w<=its.length/\(its.length:Int)-(if (its.length:Int)<y/4%4 then (its.length:Int) else y/4%4)=w:=by
   refine⟨((its.length:Int)-(if (its.length:Int)<y/4%4 then (its.length:Int) else y/4%4)).toNat,?_,?_⟩<;>split<;>lia
  have hd2:(z2a its).drop w=z2a (its.drop w):=by unfold z2a;rw[List.map_drop]
  have n0:D.noLs [D.int 0]=true:=z1n [0]
  have nd:D.noLs (D.int 0::(z2a (its.drop w)).map D.int)=true:=z1n (0::z2a (its.drop w))
  have ll:(z2a (its.drop w)).length<=30:=by unfold z2a;rw[List.length_map,List.length_drop];lia
  rw[z1x (d:=.int w) (by walk_at "evs";simp only[dIx,c0];walk_at "evs";rw[ew]) rfl]
  rw[z1x (d:=.int (1+(Item.deeps (its.drop w):Int))) (by
   walk_at "evs"
   rw[z7c,<-List.map_drop,hd2]
   walk_at "evs"
   rw[z0h ⟨by lia,nd⟩]
   walk_at "evs"
   rw[y7x]) rfl]
  generalize hk:Item.deeps (its.drop w)=lv
  by_cases hc:y%4=3/\lv<3/\0<a
  ·obtain⟨hc1,hc2,hc3⟩:=hc
   have b1:(y%4==3)=true:=by simpa using hc1
   have b2:decide (1+(lv:Int)<4)=true:=decide_eq_true (by lia)
   have b3:decide (0<a)=true:=decide_eq_true hc3
   obtain⟨m,em,m3,m4⟩:=x5d z
   have d4:(Item.again m (its.drop w)).d = .tup [.str "again",.int m,.tup ((its.drop w).map Item.d)]:=by rw[Item.d,Item.ds_map]
   have q4:D.noLs [(Item.again m (its.drop w)).d]=true:=by have:=Item.noL (Item.again m (its.drop w));simp only[D.noLs,this,Bool.and_true]
   have q5:D.noLs ((its.take w).map Item.d++[(Item.again m (its.drop w)).d])=true:=by have:=Item.noLs' (its.take w++[Item.again m (its.drop w)]);rwa [List.map_append] at this
   have l4:((its.take w).map Item.d).length<=30:=by rw[List.length_map,List.length_take];lia
   refine .nx (Γ:=[.ro (.lst (cs.map D.int)),.ro (.int P),.ro (.int many),.ro (.int (a-1)),.own ((its.take w++[Item.again m (its.drop w)]).map Item.d),.own ((z2a (its.take w++[Item.again m (its.drop w)])).map D.int),.ro (.int ((2*j:Nat):Int)),.ro (.int w),.ro (.int (1+(lv:Int)))]) (y2o ?_ (z3w (ds:=(its.take w++[Item.again m (its.drop w)]).map Item.d) ?_ (z3w (ds:=(z2a (its.take w++[Item.again m (its.drop w)])).map D.int) ?_ ((y2n (d:=.int (a-1)) ?_).trans rfl)))) ⟨_,_,_,_,_,rfl,?_,?_,?_⟩
   ·walk_at "evs"
    simp only[dIx,c0]
    walk_at "evs"
    simp only[b1,b2,b3]
    walk_at "evs"
   ·walk_at "evs"
    simp only[dIx,c1,R.bind_ok,em]
    walk_at "evs"
    rw[z7c,y5d,<-List.map_drop,<-List.map_take,<-d4,z0h q4]
    walk_at "evs"
    rw[z0h ⟨by rw[List.length_map] at l4;lia,q5⟩,List.map_append]
    rfl
   ·have n1:D.noLs [D.int (1+(lv:Int))]=true:=z1n [_]
    have e5:(z2a (its.take w++[Item.again m (its.drop w)])).map D.int=((z2a its).take w).map D.int++[D.int (1+(lv:Int))]:=by
     unfold z2a
     rw[List.map_append,List.map_append,List.map_take]
     simp only[List.map_cons,List.map_nil,Item.deep,hk]
     push_cast
     rfl
    have n5:=z1n (z2a (its.take w++[Item.again m (its.drop w)]))
    have l5:((z2a its).take w).length<=30:=by unfold z2a;rw[List.length_take,List.length_map];lia
    rw[e5] at n5 ⊢
    walk_at "evs"
    rw[y5d,<-List.map_take,z0h ⟨by rw[List.length_map];lia,n5⟩]
   ·walk_at "evs"
   ·rw[Item.oks_iff] at h1 ⊢
    intro b hb
    rcases List.mem_append.mp hb with hb | hb
    ·exact h1 b (List.mem_of_mem_take hb)
    ·rw[List.mem_singleton.mp hb,Item.ok]
     exact⟨m3,m4,Item.oks_iff.mpr fun b hb=>h1 b (List.mem_of_mem_drop hb)⟩
   ·rw[Item.deeps_le] at h2 ⊢
    intro b hb
    rcases List.mem_append.mp hb with hb | hb
    ·exact h2 b (List.mem_of_mem_take hb)
    ·rw[List.mem_singleton.mp hb,Item.deep,hk];lia
   ·have e1:Item.manys its=Item.manys (its.take w)+Item.manys (its.drop w):=by rw[<-Item.manys_append,List.take_append_drop]
    rw[Item.manys_append]
    simp only[Item.manys,Item.many]
    lia
  ·obtain⟨x,f,es,hx⟩:=x9b (c:=y/4) (m:=z) p1 p2 m1 m2
   have nx:=Item.noL (Item.set x f)
   have l6:(its.map Item.d).length<=30:=by rw[List.length_map];lia
   have l7:((z2a its).map D.int).length<=30:=by unfold z2a;rw[List.length_map,List.length_map];lia
   refine .nx (Γ:=[.ro (.lst (cs.map D.int)),.ro (.int P),.ro (.int many),.ro (.int a),.own ((its++[Item.set x f]).map Item.d),.own ((z2a (its++[Item.set x f])).map D.int),.ro (.int ((2*j:Nat):Int)),.ro (.int w),.ro (.int (1+(lv:Int)))]) (x6j ?_ (y0d (Γ':=[.ro (.lst (cs.map D.int)),.ro (.int P),.ro (.int many),.ro (.int a),.own ((its++[Item.set x f]).map Item.d),.own ((z2a its).map D.int),.ro (.int ((2*j:Nat):Int)),.ro (.int w),.ro (.int (1+(lv:Int)))]) ?_ ?_)) ⟨_,_,_,_,_,rfl,?_,?_,?_⟩
   ·walk_at "evs"
    simp only[dIx,c0]
    walk_at "evs"
    cases b1:(y%4==3) with
    | false=>rfl
    | true =>
      simp only[if_true]
      have:¬(1+(lv:Int)<4/\0<a):=fun z=>hc ⟨by simpa using b1,by lia,z.2⟩
      by_cases b2:1+(lv:Int)<4
      ·have b3:decide (0<a)=false:=decide_eq_false fun z=>this ⟨b2,z⟩
       simp only[decide_eq_true b2,b3,if_true]
      ·simp only[decide_eq_false b2]
       rfl
   ·rw[List.map_append]
    walk_at "evs"
    simp only[dIx,c0,c1]
    walk_at "evs"
    simp only[es]
    walk_at "evs"
   ·unfold z2a
    rw[List.map_append,List.map_append]
    simp only[List.map_cons,List.map_nil,Item.deep]
    walk_at "evs"
    simp
   ·rw[Item.oks_iff] at h1 ⊢
    intro b hb
    rcases List.mem_append.mp hb with hb | hb
    ·exact h1 b hb
    ·rw[List.mem_singleton.mp hb];exact hx
   ·rw[Item.deeps_le] at h2 ⊢
    intro b hb
    rcases List.mem_append.mp hb with hb | hb
    ·exact h2 b hb
    ·rw[List.mem_singleton.mp hb,Item.deep];lia
   ·rw[Item.manys_append]
    simp only[Item.manys,Item.many]
    lia
 ·rintro Γ ⟨its,a,x6,x7,x8,rfl,h1,h2,h3⟩
  rw[hsl] at h3
  exact⟨its,z2g (by walk_at "evs"),h1,h2,by lia,by lia⟩
theorem x5c{cs:List Int}{P many ag:Int}(p1:3<=P)(p2:P<=9973)(m1:1<=many)(m2:many<=3)(hcs:cs.length<=63) :
 ∃its:List Item,c_m [.lst (cs.map D.int),.int P,.int many,.int ag] = .ok (.tup (its.map Item.d))/\Item.oks P many its/\Item.deeps its<=3/\Item.manys its<=30 :=
 let ⟨its,e,h1,h2,h3,_⟩:=x1v (ag:=ag) p1 p2 m1 m2 hcs;⟨its,e,h1,h2,h3⟩
theorem x3n:((Str.ofString "set")==(Str.ofString "again"))=false:=by decide +kernel
theorem x3o:((Str.ofString "again")==(Str.ofString "set"))=false:=by decide +kernel
theorem x0c(n:Nat):D.lay n (.str (Str.ofString "set"))=true:=by rw[z2m];decide +kernel
theorem y2m(n:Nat):D.lay n (.str (Str.ofString "again"))=true:=by rw[z2m];decide +kernel
theorem x3b(a b c:D):dIx (.tup [a,b,c]) (.int 2) = .ok c:=rfl
theorem Item.many_mem:∀{its:List Item} {a:Item},a∈its->a.many<=Item.manys its
 | b::r,a,h=>by
   rcases List.mem_cons.mp h with rfl | h
   ·simp only[Item.manys];lia
   ·have:=Item.many_mem h
    simp only[Item.manys];lia
section
variable {P:Int}{n:Nat}{t:List (List Int)}
end
theorem x0x(ns:List Int)(lo hi:Option Int):cutL (ns.map D.int) lo hi=(cutL ns lo hi).map D.int:=x3e D.int ns lo hi
theorem x3f{α:Type}(xs:List α)(lo hi:Option Int):(cutL xs lo hi).length<=xs.length:=by
 unfold cutL;rw[List.length_take,List.length_drop];lia
theorem z9a(its:List Item):(D.tup (its.map Item.d)).noL=true:=by have:=Item.noLs' its;simpa [D.noL] using this
theorem x2l(c:Int):∃m:Nat,1+c%3=(m:Int)/\1<=m/\m<=3:=⟨(1+c%3).toNat,by lia,by lia,by lia⟩
mutual
noncomputable def Item.deeds:Item->Int
 | .set _ _=>1
 | .again n its=>n*Item.deedss its
noncomputable def Item.deedss:List Item->Int
 | []=>0
 | a::r=>a.deeds+Item.deedss r
end
noncomputable section
end
theorem y2s{its:List Item}{j:Nat}{d:D}(h:(its.map Item.d)[j]? = some d):∃a:Item,its[j]? = some a/\d=a.d/\a∈its:=by
 rw[List.getElem?_map] at h
 cases q:its[j]? with
 | none=>rw[q] at h;cases h
 | some a=>rw[q] at h;cases h;exact⟨a,rfl,rfl,List.mem_of_getElem? q⟩
mutual
noncomputable def Item.few:Item->Item
 | .set x f=>.set x f
 | .again n its=>.again (if Item.deedss (Item.fews its)=0 then n else n%5) (Item.fews its)
noncomputable def Item.fews:List Item->List Item
 | []=>[]
 | a::r=>a.few::Item.fews r
end
noncomputable section
noncomputable def g_b(rec_b:List D->R D):G->R Fl :=
 (gSt (gSet 2 (gNL (gV 1)))
 (gSt (gFor 3 (gSeq (gVr 0))
 (gSt (gSet 2 (gNL (gBin dAdd (gV 2) (gC (.int 1)))))
 (gSt (gIfS (gT (gBin dGt (gV 2) (gC (.int 30)))) (z2d .noProgram) z1q)
 (gIfS (gT (gBin dEq (gBin dIx (gV 3) (gC (.int 0))) (gC (.str "again")))) (gSet 2 (gNL (z0i rec_b (gCons (gBin dIx (gV 3) (gC (.int 2))) (gCons (gV 2) gNil))))) z1q))))
 (gRet (gV 2))))
noncomputable def c_b:Nat->List D->R D
 | 0=>fun _=>.no
 | n+1=>fnC 2 4 (g_b (c_b n))
noncomputable def g_C:G->R Fl :=
 (gSt (gIfS (gNot (gT (z0i c_J (gCons (gV 2) (gCons (gC (.int 0)) (gCons (gBin dSub (gV 1) (gC (.int 1))) gNil)))))) (z2d .noProgram) z1q)
 (gSt (gIfS (gT (gBin dNe (z0i dLen (gCons (gV 3) gNil)) (gBin dAdd (gV 1) (gC (.int 1))))) (z2d .noProgram) z1q)
 (gRet (gTup (gCons (gC (.str "set")) (gCons (gV 2) (gCons (z0i z2v (gCons (gL (z2q (z4g (gV 3)) (fElt (gNL (z0i (noEr c_on) (gCons (gV 1) (gCons (gV 0) gNil))))))) gNil)) gNil)))))))
noncomputable def c_C:List D->R D:=fnC 4 4 g_C
noncomputable def g_j(rec_j:List D->R D)(rec_w:List D->R D)(rec_q:List D->R D):G->R Fl :=
 (gSt (gIfS (gT (gBin dGe (gV 4) (gC (.int 3)))) (z2d .noProgram) z1q)
 (gSt (gIfS (gNot (gT (z0i c_J (gCons (gV 2) (gCons (gC (.int 0)) (gCons (gBin dPow (gC (.int 10)) (gC (.int 30))) gNil)))))) (z2d .noProgram) z1q)
 (gRet (gTup (gCons (gC (.str "again")) (gCons (gV 2) (gCons (z0i rec_q (gCons (gV 0) (gCons (gV 1) (gCons (gV 3) (gCons (gBin dAdd (gV 4) (gC (.int 1))) gNil))))) gNil)))))))
noncomputable def g_w(rec_j:List D->R D)(rec_w:List D->R D)(rec_q:List D->R D):G->R Fl :=
 (gSt (gIfS (gT (gBin dEq (gBin dIx (gV 2) (gC (.int 0))) (gC (.str "set")))) (gRet (z0i c_C (gCons (gV 0) (gCons (gV 1) (gCons (gBin dIx (gV 2) (gC (.int 1))) (gCons (gBin dIx (gV 2) (gC (.int 2))) gNil)))))) z1q)
 (gRet (z0i rec_j (gCons (gV 0) (gCons (gV 1) (gCons (gBin dIx (gV 2) (gC (.int 1))) (gCons (gBin dIx (gV 2) (gC (.int 2))) (gCons (gV 3) gNil))))))))
noncomputable def g_q(rec_j:List D->R D)(rec_w:List D->R D)(rec_q:List D->R D):G->R Fl :=
 (gRet (z0i z2v (gCons (gL (z2q (gSeq (gVr 2)) (fElt (gNL (z0i (noEr rec_w) (gCons (gV 1) (gCons (gV 2) (gCons (gV 0) (gCons (gV 4) gNil))))))))) gNil)))
mutual
noncomputable def c_j:Nat->List D->R D
 | 0=>fun _=>.no
 | n+1=>fnC 5 5 (g_j (c_j n) (c_w n) (c_q n))
noncomputable def c_w:Nat->List D->R D
 | 0=>fun _=>.no
 | n+1=>fnC 4 4 (g_w (c_j n) (c_w n) (c_q n))
noncomputable def c_q:Nat->List D->R D
 | 0=>fun _=>.no
 | n+1=>fnC 4 4 (g_q (c_j n) (c_w n) (c_q n))
end
noncomputable def g_H:G->R Fl :=
 (gSt (gEx (z0i c_M (gCons (gV 0) gNil)))
 (gSt (gIfS (gNot (gT (z0i c_J (gCons (gV 1) (gCons (gC (.int 1)) (gCons (gC (.int 3)) gNil)))))) (z2d .noProgram) z1q)
 (gSt (gEx (z0i (c_b 12) (gCons (gV 2) (gCons (gC (.int 0)) gNil))))
 (gRet (z0i (c_q 12) (gCons (gV 0) (gCons (gV 1) (gCons (gV 2) (gCons (gC (.int 0)) gNil)))))))))
noncomputable def c_H:List D->R D:=fnC 3 3 g_H
end
end L3
namespace L3
open PySem
local macro_rules | `(tactic| walk_at "evs") => wkL " L3.y5o L3.z8f L3.z8e L3.s_on L3.z3m L3.y1g L3.z9k L3.z8k L3.z5k L3.z9o L3.y0a L3.Item.d L3.Item.ds_map L3.z5h L3.x3n L3.x3o L3.x0c L3.y2m"
inductive Raw where
 | set (x:Int) (f:List Int)
 | again (n:Int) (l:Bool) (its:List Raw)
noncomputable def seqd(l:Bool)(ds:List D):D:=if l then .lst ds else .tup ds
mutual
noncomputable def Raw.d:Raw->D
 | .set x f=>.tup [.str "set",.int x,rowD f]
 | .again n l its=>.tup [.str "again",.int n,seqd l (Raw.ds its)]
noncomputable def Raw.ds:List Raw->List D
 | []=>[]
 | a::r=>a.d::Raw.ds r
end
theorem Raw.ds_map:∀its:List Raw,Raw.ds its=its.map Raw.d
 | []=>rfl
 | a::r=>by rw[Raw.ds,Raw.ds_map r];rfl
mutual
noncomputable def Raw.deep:Raw->Nat
 | .set _ _=>0
 | .again _ _ its=>1+Raw.deeps its
noncomputable def Raw.deeps:List Raw->Nat
 | []=>0
 | a::r=>max a.deep (Raw.deeps r)
end
mutual
noncomputable def Raw.many:Raw->Nat
 | .set _ _=>1
 | .again _ _ its=>1+Raw.manys its
noncomputable def Raw.manys:List Raw->Nat
 | []=>0
 | a::r=>a.many+Raw.manys r
end
mutual
noncomputable def Raw.ok(many:Int):Raw->Prop
 | .set x f=>0<=x/\x<many/\(f.length:Int)=many+1
 | .again n _ its=>0<=n/\n<=10^30/\Raw.oks many its
noncomputable def Raw.oks(many:Int):List Raw->Prop
 | []=>True
 | a::r=>a.ok many/\Raw.oks many r
end
mutual
noncomputable def Raw.made(P:Int):Raw->Item
 | .set x f=>.set x (f.map (·%P))
 | .again n _ its=>.again n (Raw.mades P its)
noncomputable def Raw.mades(P:Int):List Raw->List Item
 | []=>[]
 | a::r=>a.made P::Raw.mades P r
end
theorem Raw.mades_map(P:Int):∀its:List Raw,Raw.mades P its=its.map (Raw.made P)
 | []=>rfl
 | a::r=>by rw[Raw.mades,Raw.mades_map P r];rfl
theorem Raw.oks_iff{many:Int}:∀{its:List Raw},Raw.oks many its↔∀a∈its,a.ok many
 | []=>by simp[Raw.oks]
 | a::r=>by simp[Raw.oks,Raw.oks_iff (its:=r)]
theorem Raw.deep_mem:∀{its:List Raw} {a:Raw},a∈its->a.deep<=Raw.deeps its
 | b::r,a,h=>by
   simp only[Raw.deeps]
   rcases List.mem_cons.mp h with rfl | h
   ·lia
   ·have:=Raw.deep_mem h;lia
theorem Raw.many_mem:∀{its:List Raw} {a:Raw},a∈its->a.many<=Raw.manys its
 | b::r,a,h=>by
   simp only[Raw.manys]
   rcases List.mem_cons.mp h with rfl | h
   ·lia
   ·have:=Raw.many_mem h;lia
theorem Raw.manys_append:∀{a b:List Raw},Raw.manys (a++b)=Raw.manys a+Raw.manys b
 | [],b=>by simp[Raw.manys]
 | x::a,b=>by simp[Raw.manys,Raw.manys_append (a:=a)];lia
theorem Raw.many_pos:∀a:Raw,0<a.many
 | .set _ _=>by simp[Raw.many]
 | .again _ _ _=>by simp[Raw.many];lia
theorem Raw.manys_length:∀its:List Raw,its.length<=Raw.manys its
 | []=>Nat.le_refl _
 | a::r=>by have:=a.many_pos;have:=Raw.manys_length r;simp only[Raw.manys,List.length_cons];lia
theorem x0j{its:List Raw}{j:Nat}{d:D}(h:(its.map Raw.d)[j]? = some d):∃a:Raw,its[j]? = some a/\d=a.d/\a∈its:=by
 rw[List.getElem?_map] at h
 cases q:its[j]? with
 | none=>rw[q] at h;cases h
 | some a=>rw[q] at h;cases h;exact⟨a,rfl,rfl,List.mem_of_getElem? q⟩
theorem x3c(a b c:D):dIx (.tup [a,b,c]) (.int 1) = .ok b:=rfl
theorem y1x:∀(k:Nat) (its:List Raw) (l:Bool) (c:Nat),Raw.deeps its<k->c+Raw.manys its<=30->c_b k [seqd l (its.map Raw.d),.int c] = .ok (.int ((c+Raw.manys its:Nat):Int))
 | 0,_,_,_,h,_=>absurd h (Nat.not_lt_zero _)
 | k+1,its,l,c,h,hm=>by
   show fnC 2 4 (g_b (c_b k)) _=_
   refine z1g rfl ?_
   delta g_b
   refine z1x (d:=.int c) (by walk_at "evs") ?_
   refine z9v (ds:=its.map Raw.d) (fun j Γ=>∃x3,Γ=[.ro (seqd l (its.map Raw.d)),.ro (.int c),.ro (.int ((c+Raw.manys (its.take j):Nat):Int)),x3]) (by walk_at "evs";cases l<;>rfl) ⟨_,by simp[Raw.manys];rfl⟩ ?_ ?_
   ·rintro j d Γ hd ⟨x3,rfl⟩
    obtain⟨a,ea,rfl,ha⟩:=x0j hd
    have et:Raw.manys (its.take (j+1))=Raw.manys (its.take j)+a.many:=by
     rw[List.take_add_one,ea,Raw.manys_append]
     simp[Raw.manys]
    have es:Raw.manys its=Raw.manys (its.take (j+1))+Raw.manys (its.drop (j+1)):=by rw[<-Raw.manys_append,List.take_append_drop]
    have hp:=a.many_pos
    have e1:((c+Raw.manys (its.take j):Nat):Int)+1=((c+Raw.manys (its.take j)+1:Nat):Int):=rfl
    rw[z1x (d:=.int ((c+Raw.manys (its.take j)+1:Nat):Int)) (by walk_at "evs";rw[e1]) rfl]
    have b1:decide ((30:Int)<((c+Raw.manys (its.take j)+1:Nat):Int))=false:=decide_eq_false (by lia)
    rw[z1f (by walk_at "evs";rw[b1]) rfl]
    cases a with
    | set x f =>
      have e2:Raw.manys (its.take (j+1))=Raw.manys (its.take j)+1:=by rw[et];rfl
      refine .nx (y0j ?_) ⟨.ro (Raw.set x f).d,?_⟩
      ·simp only[Raw.d]
       walk_at "evs"
      ·rw[e2];rfl
    | again n l2 i =>
      have h1:=Raw.deep_mem ha
      simp only[Raw.deep] at h1
      simp only[Raw.many] at et hp
      have ih:=y1x k i l2 (c+Raw.manys (its.take j)+1) (by lia) (by lia)
      refine .nx (y2o ?_ (y2n (d:=.int ((c+Raw.manys (its.take (j+1)):Nat):Int)) ?_)) ⟨_,rfl⟩
      ·simp only[Raw.d]
       walk_at "evs"
      ·simp only[Raw.d,Raw.ds_map]
       walk_at "evs"
       simp only[ih]
       walk_at "evs"
       rw[et]
       congr 3
       lia
   ·rintro Γ ⟨x3,rfl⟩
    refine z2g ?_
    walk_at "evs"
    rw[List.take_of_length_le (Nat.le_refl _)]
theorem s_C{P many x:Int}{f:List Int}(p1:3<=P)(p2:P<=9999)(m1:1<=many)(m3:many<=3)(h0:0<=x)(h1:x<many)(hf:(f.length:Int)=many+1):c_C [.int P,.int many,.int x,rowD f] = .ok (Item.set x (f.map (·%P))).d:=by
 refine z1g rfl ?_
 delta g_C
 have ef:=s_J (d:=.int x) (a:=0) (b:=many-1) rfl
 have b:y4x (.int x) 0 (many-1)=true:=by
  show(decide (0<=x)&&decide (x<=many-1))=true
  rw[decide_eq_true h0,decide_eq_true (by lia)];rfl
 rw[b] at ef
 refine z1f (by walk_at "evs";simp only[ef];walk_at "evs") ?_
 refine z1f (by simp only[y5p];walk_at "evs";simp only[hf];walk_at "evs";try simp) ?_
 refine z2g ?_
 simp only[Item.d,y5p]
 have hl:f.length<=100000:=by lia
 walk_at "evs"
 rw[z1u (h:=fun n=>D.int (n%P))]
 ·rw[y4q]
  walk_at "evs"
 ·intro n hn
  walk_at "evs"
theorem x3s{P many:Int}(p1:3<=P)(p2:P<=9999)(m1:1<=many)(m3:many<=3):∀(k:Nat) (its:List Raw) (l:Bool) (ar:Nat),3*Raw.deeps its+3<=k->ar+Raw.deeps its<=3->Raw.manys its<=60->Raw.oks many its->c_q k [.int P,.int many,seqd l (its.map Raw.d),.int ar] = .ok (.tup ((Raw.mades P its).map Item.d))
 | 0,_,_,_,h,_,_,_=>by lia
 | 1,_,_,_,h,_,_,_=>by lia
 | 2,_,_,_,h,_,_,_=>by lia
 | k+3,its,l,ar,h,har,hm,ho=>by
   show fnC 4 4 (g_q (c_j (k+2)) (c_w (k+2)) (c_q (k+2))) _=_
   refine z1g rfl ?_
   delta g_q
   refine z2g ?_
   have hlen:=Raw.manys_length its
   have hl:(its.map Raw.d).length<=100000:=by rw[List.length_map];lia
   have hsq:gSeq (gVr 2) [En.ro (.int P),.ro (.int many),.ro (seqd l (its.map Raw.d)),.ro (.int ar)] = .ok (its.map Raw.d):=by
    walk_at "evs"
    cases l<;>rfl
   have key:∀F:D->G->R (Option D),(∀a∈its,F a.d [En.ro (.int P),.ro (.int many),.ro (seqd l (its.map Raw.d)),.ro (.int ar)] = .ok (some (a.made P).d))->z0i z2v (gCons (gL (z2q (gSeq (gVr 2)) F)) gNil) [En.ro (.int P),.ro (.int many),.ro (seqd l (its.map Raw.d)),.ro (.int ar)] = .ok (.tup ((Raw.mades P its).map Item.d)):=fun F hF=>by
    have e:z2q (gSeq (gVr 2)) F [En.ro (.int P),.ro (.int many),.ro (seqd l (its.map Raw.d)),.ro (.int ar)] = .ok (its.map fun a=>(a.made P).d):=by
     unfold z2q
     rw[hsq]
     show R.guard _ _=_
     rw[z0h hl,z1u hF]
    rw[Raw.mades_map,List.map_map]
    simp only[z0i,gCons,gNil,gL,e]
    rfl
   refine key _ ?_
   ·intro a ha
    have oka:=Raw.oks_iff.mp ho a ha
    have nL:=Item.noL (a.made P)
    have e:c_w (k+2) [.int P,.int many,a.d,.int ar] = .ok (a.made P).d:=by
     show fnC 4 4 (g_w (c_j (k+1)) (c_w (k+1)) (c_q (k+1))) _=_
     refine z1g rfl ?_
     delta g_w
     cases a with
     | set x f =>
       simp only[Raw.ok] at oka
       have es:=s_C (P:=P) (many:=many) (x:=x) (f:=f) p1 p2 m1 m3 oka.1 oka.2.1 oka.2.2
       simp only[Raw.d]
       refine x3j (y2o (by walk_at "evs") (z2g ?_))
       walk_at "evs"
       simp only[es]
       rfl
     | again n l2 i =>
       simp only[Raw.ok] at oka
       have h1:=Raw.deep_mem ha
       have h2:=Raw.many_mem ha
       simp only[Raw.deep,Raw.many] at h1 h2
       have ih:=x3s p1 p2 m1 m3 k i l2 (ar+1) (by lia) (by lia) (by lia) oka.2.2
       have ef:=s_J (d:=.int n) (a:=0) (b:=10^30) rfl
       have b:y4x (.int n) 0 (10^30)=true:=by
        show(decide (0<=n)&&decide (n<=10^30))=true
        rw[decide_eq_true oka.1,decide_eq_true oka.2.1];rfl
       rw[b] at ef
       have nI:=z9a (Raw.mades P i)
       have eg:c_j (k+1) [.int P,.int many,.int n,seqd l2 (i.map Raw.d),.int ar] = .ok (Item.again n (Raw.mades P i)).d:=by
        show fnC 5 5 (g_j (c_j k) (c_w k) (c_q k)) _=_
        refine z1g rfl ?_
        delta g_j
        have b1:decide ((3:Int)<=(ar:Int))=false:=decide_eq_false (by lia)
        refine z1f (by walk_at "evs";rw[b1]) ?_
        refine z1f (by walk_at "evs";simp only[ef];walk_at "evs") ?_
        refine z2g ?_
        have ea:(ar:Int)+1=((ar+1:Nat):Int):=rfl
        walk_at "evs"
        simp only[ea,ih]
        walk_at "evs"
       simp only[Raw.d,Raw.ds_map]
       refine z1f (by walk_at "evs") (z2g ?_)
       walk_at "evs"
       simp only[eg]
       rfl
    walk_at "evs"
    simp only[e]
    walk_at "evs"
theorem s_H{P many:Int}{its:List Raw}{l:Bool}(p1:3<=P)(p2:P<=9973)(hd:z2h P=false)(m1:1<=many)(m3:many<=3)(d3:Raw.deeps its<=3)(hm:Raw.manys its<=30)(ho:Raw.oks many its):c_H [.int P,.int many,seqd l (its.map Raw.d)] = .ok (.tup ((Raw.mades P its).map Item.d)):=by
 refine z1g rfl ?_
 delta g_H
 have ep:=x1t (d:=.int P) rfl (show(decide (3<=P)&&(decide (P<=9999)&&!z2h P))=true by rw[decide_eq_true p1,decide_eq_true (show P<=9999 by lia),hd];rfl)
 have ef:=s_J (d:=.int many) (a:=1) (b:=3) rfl
 have b:y4x (.int many) 1 3=true:=by
  show(decide (1<=many)&&decide (many<=3))=true
  rw[decide_eq_true m1,decide_eq_true m3];rfl
 rw[b] at ef
 have ec:=y1x 12 its l 0 (by lia) (by lia)
 have em:=x3s (P:=P) p1 (by lia) m1 m3 12 its l 0 (by lia) (by lia) (by lia) ho
 refine y0d (l_ex (d:=.int P) (by walk_at "evs";simp only[ep])) ?_
 refine z1f (by walk_at "evs";simp only[ef];walk_at "evs") ?_
 refine y0d (l_ex (d:=.int ((0+Raw.manys its:Nat):Int)) (by walk_at "evs";simp only[show(D.int 0)=D.int ((0:Nat):Int) from rfl,ec];try simp)) (z2g ?_)
 walk_at "evs"
 simp only[show(D.int 0)=D.int ((0:Nat):Int) from rfl,em]
noncomputable section
end
mutual
noncomputable def Item.raw0:Item->Raw
 | .set x f=>.set x f
 | .again n its=>.again n false (Item.raws0 its)
noncomputable def Item.raws0:List Item->List Raw
 | []=>[]
 | a::r=>a.raw0::Item.raws0 r
end
theorem x5x{P:Int}{f:List Int}(h:onW P f):f.map (·%P)=f:=by
 have:∀n∈f,n%P=n:=fun n hn=>Int.emod_eq_of_lt (h n hn).1 (h n hn).2
 exact(List.map_congr_left this).trans (List.map_id _)
mutual
theorem Item.raw0_keeps{P many:Int}:∀a:Item,a.ok P many->a.raw0.deep=a.deep/\a.raw0.many=a.many/\a.raw0.ok many/\a.raw0.made P=a/\a.raw0.d=a.d
 | .set x f,h=>by
   simp only[Item.ok] at h
   refine⟨rfl,rfl,?_,?_,rfl⟩
   ·simp only[Item.raw0,Raw.ok];exact⟨h.1,h.2.1,h.2.2.1⟩
   ·simp only[Item.raw0,Raw.made,x5x h.2.2.2]
 | .again n its,h=>by
   simp only[Item.ok] at h
   obtain⟨h1,h2,h3,h4,h5⟩:=Item.raws0_keeps its h.2.2
   refine⟨by simp only[Item.raw0,Raw.deep,Item.deep,h1],by simp only[Item.raw0,Raw.many,Item.many,h2],?_,by simp only[Item.raw0,Raw.made,h4],?_⟩
   ·simp only[Item.raw0,Raw.ok]
    exact⟨h.1,h.2.1,h3⟩
   ·simp only[Item.raw0,Raw.d,Item.d,seqd,h5]
    rfl
theorem Item.raws0_keeps{P many:Int}:∀its:List Item,Item.oks P many its->Raw.deeps (Item.raws0 its)=Item.deeps its/\Raw.manys (Item.raws0 its)=Item.manys its/\Raw.oks many (Item.raws0 its)/\Raw.mades P (Item.raws0 its)=its/\Raw.ds (Item.raws0 its)=Item.ds its
 | [],_=>⟨rfl,rfl,trivial,rfl,rfl⟩
 | a::r,h=>by
   simp only[Item.oks] at h
   obtain⟨h1,h2,h3,h4,h5⟩:=Item.raw0_keeps a h.1
   obtain⟨k1,k2,k3,k4,k5⟩:=Item.raws0_keeps r h.2
   exact⟨by simp only[Item.raws0,Raw.deeps,Item.deeps,h1,k1],by simp only[Item.raws0,Raw.manys,Item.manys,h2,k2],by simp only[Item.raws0,Raw.oks];exact⟨h3,k3⟩,by simp only[Item.raws0,Raw.mades,h4,k4],by simp only[Item.raws0,Raw.ds,Item.ds,h5,k5]⟩
end
noncomputable section
noncomputable def g_i:G->R Fl :=
 (gSt (gSet 3 (gNL (gC (.str "abcdefghijklmnopqrstuvwxyz"))))
 (gSt (gSet 4 (gNL (gBin dAdd (gC (.int 1)) (gBin dMod (gV 0) (gC (.int 8))))))
 (gSt (z3h 5 (gLst gNil))
 (gSt (gFor 6 (y1j (gV 2))
 (gSt (gSet 7 (gNL (gC (.str ""))))
 (gSt (gFor 8 (y1j (gV 4))
 (gSt (gSet 9 (gNL (gBin dAdd (gBin dAdd (gBin dMul (gBin dDiv (gV 0) (gC (.int 64))) (gBin dAdd (gBin dMul (gC (.int 2)) (gV 8)) (gC (.int 1)))) (gBin dMul (gBin dDiv (gV 1) (gC (.int 26))) (gV 8))) (gBin dMul (gBin dMul (gC (.int 7)) (gV 8)) (gV 8)))))
 (gSt (gIfS (gT (gBin dEq (gV 8) (gBin dMod (gBin dDiv (gV 0) (gC (.int 8))) (gV 4)))) (gSet 9 (gNL (gBin dAdd (gV 9) (gBin dMul (gBin dAdd (gC (.int 1)) (gBin dMul (gC (.int 2)) (gBin dMod (gV 1) (gC (.int 6))))) (gV 6))))) z1q)
 (gSet 7 (gNL (gBin y5c (gV 7) (gBin dIxS (gV 3) (gBin dMod (gV 9) (gC (.int 26))))))))))
 (gSt (gIfS (gT (gBin dIn (gV 7) (gTup (gCons (gC (.str "set")) (gCons (gC (.str "again")) gNil))))) (gSet 7 (gNL (gBin y5c (gV 7) (gC (.str "x"))))) z1q)
 (gApp 5 (gNL (gV 7)))))))
 (gRet (z0i z2v (gCons (gV 5) gNil)))))))
noncomputable def c_i:List D->R D:=fnC 3 10 g_i
noncomputable def g_p(rec_p:List D->R D):G->R Fl :=
 (gSt (gIfS (gT (gIsi z3y (gV 0))) (gRet (z0i dAll (gCons (gL (z2q (z4g (gV 0)) (fElt (gNL (z0i (noEr rec_p) (gCons (gV 0) gNil)))))) gNil))) z1q)
 (gRet (gOrV (gIsi z5x (gV 0)) (z0i c_n (gCons (gV 0) gNil)))))
noncomputable def c_p:Nat->List D->R D
 | 0=>fun _=>.no
 | n+1=>fnC 1 1 (g_p (c_p n))
noncomputable def g_o(rec_o:List D->R (List D)):G->R Fl :=
 (gSt (z3h 2 (gLst gNil))
 (gSt (gFor 3 (gSeq (gVr 1))
 (gIfS (gT (gBin dEq (gBin dIx (gV 3) (gC (.int 0))) (gC (.str "set")))) (z3h 2 (gCat (z7k (gV 2) (gL (gLst (gCons (gC (.str "set")) (gCons (gBin dIx (gV 0) (gBin dIx (gV 3) (gC (.int 1)))) gNil))))) (z2q (z4g (gBin dIx (gV 3) (gC (.int 2)))) (fElt (gNL (z0i dStr (gCons (gV 0) gNil))))))) (z3h 2 (gCat (gCat (z7k (gV 2) (gL (gLst (gCons (gC (.str "again")) (gCons (z0i dStr (gCons (gBin dIx (gV 3) (gC (.int 1))) gNil)) (gCons (gC (.str "[")) gNil)))))) (z1v rec_o (gCons (gV 0) (gCons (gBin dIx (gV 3) (gC (.int 2))) gNil)))) (gLst (gCons (gC (.str "]")) gNil))))))
 (z9g 2)))
noncomputable def c_o:Nat->List D->R (List D)
 | 0=>fun _=>.no
 | n+1=>fnF 2 4 (g_o (c_o n))
noncomputable def g_A:G->R Fl :=
 (gSt (z3h 3 (gLst (gCons (gBin y5c (gC (.str "prime ")) (z0i dStr (gCons (gV 0) gNil))) (gCons (y0b " " (gL (gCat (gLst (gCons (gC (.str "boxes")) gNil)) (z4v (gV 1))))) (gCons (y0b " " (gL (gCat (gLst (gCons (gC (.str "do")) gNil)) (z1v (c_o 12) (gCons (gV 1) (gCons (gV 2) gNil)))))) gNil)))))
 (gRet (y0b "\n" (gV 3))))
noncomputable def c_A:List D->R D:=fnC 3 4 g_A
noncomputable def g_u:G->R Fl :=
 (gRet (z4w (gBin dLe (gC (.int 1)) (z0i x0v (gCons (gV 0) gNil))) (z4w (gBin dLe (z0i x0v (gCons (gV 0) gNil)) (gV 2)) (z0i dAll (gCons (gL (z2q (y0n (gV 0)) (fElt (gNL (gBin dInS (gV 0) (gV 2)))))) gNil)))))
noncomputable def c_u:List D->R D:=fnC 3 3 g_u
noncomputable def g_f:G->R Fl :=
 (gSt (gIfS (gOr (gNot (gT (z0i c_u (gCons (gV 0) (gCons (gC (.str "0123456789")) (gCons (gC (.int 31)) gNil)))))) (gAnd (gT (gBin dEq (gBin dIxS (gV 0) (gC (.int 0))) (gC (.str "0")))) (gT (gBin dNe (gV 0) (gC (.str "0")))))) (z2d .noText) z1q)
 (gRet (z0i x0w (gCons (gV 0) gNil))))
noncomputable def c_f:List D->R D:=fnC 1 1 g_f
noncomputable def g_L:G->R (D×List D) :=
 (gStM (gIfS (gT (gBin dLt (z0i dLen (gCons (gV 0) gNil)) (gV 1))) gNev z1q)
 (y7q 0 (gV 1)))
noncomputable def c_L:List D->R (D×List D):=fnM 2 2 0 g_L
noncomputable def g_x:G->R (D×List D) :=
 (z4h 0 (y4w 0 (gOpM dNe 0 (z2i c_L (z5q 0 (gCons (gNL (gC (.int 1))) gNil))) (gL (gLst (gCons (gV 1) gNil))))))
noncomputable def c_x:List D->R (D×List D):=fnM 2 2 0 g_x
noncomputable def g_a:G->R Fl :=
 (gSt (gSet 2 (gNL (z0i c_f (gCons (gV 1) gNil))))
 (gSt (gIfS (gT (gBin dGe (gV 2) (gV 0))) (z2d .noText) z1q)
 (gRet (gV 2))))
noncomputable def c_a:List D->R D:=fnC 2 3 g_a
noncomputable def g_D:G->R (D×List D) :=
 (gStM (z9z 3 2 (gIxM 2 (z2i c_L (z5q 2 (gCons (gNL (gC (.int 1))) gNil))) (gC (.int 0))))
 (gStM (gIfS (gT (gBin z7m (gV 3) (gV 1))) gNev z1q)
 (gStM (z3u 4 2 (z2i c_L (z5q 2 (gCons (gNL (gBin dAdd (z0i dLen (gCons (gV 1) gNil)) (gC (.int 1)))) gNil))) (fElt (gNL (z0i (noEr c_a) (gCons (gV 1) (gCons (gV 0) gNil))))))
 (y1k 2 (gTup (gCons (gNL (gC (.str "set"))) (gCons (gNL (z9h (gV 1) (gV 3))) (gCons (gNL (z0i z2v (gCons (gV 4) gNil))) gNil))))))))
noncomputable def c_D:List D->R (D×List D):=fnM 3 5 2 g_D
noncomputable def g_v(rec_v:List D->R (D×List D))(rec_y:List D->R (D×List D))(rec_h:List D->R (D×List D)):G->R (D×List D) :=
 (gStM (gIfS (gT (gBin dGe (gV 3) (gC (.int 3)))) gNev z1q)
 (gStM (z9z 4 2 (z7l c_f (gIxM 2 (z2i c_L (z5q 2 (gCons (gNL (gC (.int 1))) gNil))) (gC (.int 0)))))
 (gStM (gExM 2 (z2i c_x (z5q 2 (gCons (gNL (gC (.str "["))) gNil))))
 (gStM (z9z 5 2 (z2i rec_h (gCons (gVr 0) (gCons (gVr 1) (z5q 2 (gCons (gNL (gBin dAdd (gV 3) (gC (.int 1)))) gNil))))))
 (gStM (gExM 2 (z2i c_x (z5q 2 (gCons (gNL (gC (.str "]"))) gNil))))
 (y1k 2 (gTup (gCons (gNL (gC (.str "again"))) (gCons (gVr 4) (gCons (gVr 5) gNil))))))))))
noncomputable def g_y(rec_v:List D->R (D×List D))(rec_y:List D->R (D×List D))(rec_h:List D->R (D×List D)):G->R (D×List D) :=
 (gStM (z9z 4 2 (gIxM 2 (z2i c_L (z5q 2 (gCons (gNL (gC (.int 1))) gNil))) (gC (.int 0))))
 (gIfM (gT (gBin dEq (gV 4) (gC (.str "set")))) (z2i c_D (gCons (gVr 0) (gCons (gVr 1) (z5q 2 gNil))))
 (gIfM (gT (gBin dEq (gV 4) (gC (.str "again")))) (z2i rec_v (gCons (gVr 0) (gCons (gVr 1) (z5q 2 (gCons (gVr 3) gNil)))))
 x6u)))
noncomputable def g_h(rec_v:List D->R (D×List D))(rec_y:List D->R (D×List D))(rec_h:List D->R (D×List D)):G->R (D×List D) :=
 (gStM (z3h 4 (gLst gNil))
 (gStM (whGo (gAnd (z8a (gV 2)) (gT (gBin dNe (gBin dIx (gV 2) (gNeg (gC (.int 1)))) (gC (.str "]"))))) (y1l 4 2 (z2i rec_y (gCons (gVr 0) (gCons (gVr 1) (z5q 2 (gCons (gVr 3) gNil)))))) 200)
 (y1k 2 (gNL (z0i z2v (gCons (gV 4) gNil))))))
mutual
noncomputable def c_v:Nat->List D->R (D×List D)
 | 0=>fun _=>.no
 | n+1=>fnM 4 6 2 (g_v (c_v n) (c_y n) (c_h n))
noncomputable def c_y:Nat->List D->R (D×List D)
 | 0=>fun _=>.no
 | n+1=>fnM 4 5 2 (g_y (c_v n) (c_y n) (c_h n))
noncomputable def c_h:Nat->List D->R (D×List D)
 | 0=>fun _=>.no
 | n+1=>fnM 4 5 2 (g_h (c_v n) (c_y n) (c_h n))
end
noncomputable def g_s:G->R Fl :=
 (gSt (z3h 3 (z6y (gV 2)))
 (gSt (z9z 4 3 (z2i (c_h 12) (gCons (gVr 0) (gCons (gVr 1) (z5q 3 (gCons (gNL (gC (.int 0))) gNil))))))
 (gSt (gIfS (z8a (gV 3)) (z2d .noText) z1q)
 (gNoX (gRet (z0i c_H (gCons (gV 0) (gCons (z0i dLen (gCons (gV 1) gNil)) (gCons (gV 4) gNil)))))))))
noncomputable def c_s:List D->R D:=fnC 3 5 g_s
noncomputable def g_K:G->R Fl :=
 (gRet (z4w (z0i c_u (gCons (gV 0) (gCons (gC (.str "abcdefghijklmnopqrstuvwxyz")) (gCons (gC (.int 8)) gNil)))) (gBin z7m (gV 0) (gTup (gCons (gC (.str "set")) (gCons (gC (.str "again")) gNil))))))
noncomputable def c_K:List D->R D:=fnC 1 1 g_K
noncomputable def g_r:G->R Fl :=
 (gSt (gIfS (gOr (gNot (z8a (gV 0))) (gOr (gT (gBin dGt (z0i dLen (gCons (gV 0) gNil)) (gC (.int 3)))) (gT (gBin dNe (y6f (gV 0)) (z0i dLen (gCons (gV 0) gNil)))))) (z2d .noText) z1q)
 (gSt (gIfS (gNot (gT (z0i dAll (gCons (gL (z2q (z4g (gV 0)) (fElt (gNL (z0i (noEr c_K) (gCons (gV 0) gNil)))))) gNil)))) (z2d .noText) z1q)
 (gRet (z0i z2v (gCons (gV 0) gNil)))))
noncomputable def c_r:List D->R D:=fnC 1 1 g_r
noncomputable def g_l:G->R Fl :=
 (gSt (gIfS (gT (gBin dNe (z0i dLen (gCons (gV 0) gNil)) (gC (.int 1)))) (z2d .noText) z1q)
 (gSt (gSet 1 (gNL (z0i c_f (gCons (gBin dIx (gV 0) (gC (.int 0))) gNil))))
 (gSt (gIfS (gNot (gT (z0i c_G (gCons (gV 1) gNil)))) (z2d .noText) z1q)
 (gRet (gV 1)))))
noncomputable def c_l:List D->R D:=fnC 1 2 g_l
noncomputable def g_e:G->R Fl :=
 (gSt (z3h 2 (y2t " " (gV 0)))
 (gSt (gIfS (gT (gBin dNe (gBin dIx (gV 2) (gC (.int 0))) (gV 1))) (z2d .noText) z1q)
 (z8b (gSlF (gV 2) (gOS (gC (.int 1))) gON))))
noncomputable def c_e:List D->R (List D):=fnF 2 3 g_e
noncomputable def g_O:G->R Fl :=
 (gSt (z3h 1 (y2t "\n" (gV 0)))
 (gSt (gIfS (gT (gBin dNe (z0i dLen (gCons (gV 1) gNil)) (gC (.int 3)))) (z2d .noText) z1q)
 (gSt (gSet 2 (gNL (z0i c_l (gCons (gL (z1v c_e (gCons (gBin dIx (gV 1) (gC (.int 0))) (gCons (gC (.str "prime")) gNil)))) gNil))))
 (gSt (gSet 3 (gNL (z0i c_r (gCons (gL (z1v c_e (gCons (gBin dIx (gV 1) (gC (.int 1))) (gCons (gC (.str "boxes")) gNil)))) gNil))))
 (gRet (gTup (gCons (gV 2) (gCons (gV 3) (gCons (z0i c_s (gCons (gV 2) (gCons (gV 3) (gCons (gL (z1v c_e (gCons (gBin dIx (gV 1) (gC (.int 2))) (gCons (gC (.str "do")) gNil)))) gNil)))) gNil)))))))))
noncomputable def c_O:List D->R D:=fnC 1 4 g_O
noncomputable def g_I:G->R Fl :=
 (z8b (z2q (z4g (gV 0)) (fElt (gNL (z0i dStr (gCons (gV 0) gNil))))))
noncomputable def c_I:List D->R (List D):=fnF 1 1 g_I
noncomputable def g_E(rec_E:List D->R (List D))(rec_c:List D->R (List D)):G->R Fl :=
 (gSt (z3h 2 (gLst gNil))
 (gSt (gFor 3 (gSeq (gVr 1))
 (gExt 2 (z1v rec_c (gCons (gV 0) (gCons (gV 3) gNil)))))
 (z9g 2)))
noncomputable def g_c(rec_E:List D->R (List D))(rec_c:List D->R (List D)):G->R Fl :=
 (gSt (gIfS (gT (gBin dEq (gBin dIx (gV 1) (gC (.int 0))) (gC (.str "set")))) (z8b (gCat (gLst (gCons (gC (.str "set")) (gCons (gBin dIx (gV 0) (gBin dIx (gV 1) (gC (.int 1)))) gNil))) (z1v c_I (gCons (gBin dIx (gV 1) (gC (.int 2))) gNil)))) z1q)
 (z8b (gCat (gCat (gLst (gCons (gC (.str "again")) (gCons (z0i dStr (gCons (gBin dIx (gV 1) (gC (.int 1))) gNil)) (gCons (gC (.str "[")) gNil)))) (z1v rec_E (gCons (gV 0) (gCons (gBin dIx (gV 1) (gC (.int 2))) gNil)))) (gLst (gCons (gC (.str "]")) gNil)))))
mutual
noncomputable def c_E:Nat->List D->R (List D)
 | 0=>fun _=>.no
 | n+1=>fnF 2 4 (g_E (c_E n) (c_c n))
noncomputable def c_c:Nat->List D->R (List D)
 | 0=>fun _=>.no
 | n+1=>fnF 2 2 (g_c (c_E n) (c_c n))
end
noncomputable def g_N:G->R Fl :=
 (gSt (gSet 3 (gL (y0a (gCons (gL (y0a (gCons (gNL (gC (.str "prime"))) (gCons (gNL (z0i dStr (gCons (gV 0) gNil))) gNil)))) (gCons (gL (gCat (gLst (gCons (gC (.str "boxes")) gNil)) (z4v (gV 1)))) (gCons (gL (gCat (gLst (gCons (gC (.str "do")) gNil)) (z1v (c_E 12) (gCons (gV 1) (gCons (gV 2) gNil))))) gNil))))))
 (gRet (y0b "\n" (gL (z2q (gSeq (gVr 3)) (fElt (gNL (y0b " " (gV 0)))))))))
noncomputable def c_N:List D->R D:=fnC 3 4 g_N
end
end L3
namespace L3
open PySem
local macro_rules | `(tactic| walk_at "evs") => wkL " L3.y5o L3.z8f L3.z8e L3.s_on L3.z3m L3.y1g L3.z9k L3.z8k L3.z5k L3.z9o L3.y0a L3.Item.d L3.Item.ds_map L3.z5h L3.x3n L3.x3o L3.x0c L3.y2m L3.z8a L3.D.isNon L3.z5q L3.x0v L3.dInS L3.dIxS L3.y0n L3.z7m L3.dIn L3.z6y L3.gNoX L3.y5c"
section
variable {t:G->R Fl}{u v:G->R (D×List D)}{g gb:G->R D}{Γ Γ':G}{d b r:D}{ws:List D}{w j i m:Nat}{q:R (D×List D)}
theorem m_st(h:t Γ = .ok (.nx Γ'))(hr:u Γ'=q):gStM t u Γ=q:=by unfold gStM;rw[h];exact hr
theorem y7k(h:u Γ = .ok (d,ws)):z9z j w u Γ = .ok (.nx ((Γ.set w (.own ws)).set j (.ro d))):=by unfold z9z;rw[h]
theorem m_ex(h:u Γ = .ok (d,ws)):gExM w u Γ = .ok (.nx (Γ.set w (.own ws))):=by unfold gExM;rw[h]
theorem x9w{ds:List D}(h:u Γ = .ok (d,ws))(hm:(Γ.set w (.own ws))[m]? = some (.own ds))(hl:ds.length<=100000):y1l m w u Γ = .ok (.nx ((Γ.set w (.own ws)).set m (.own (ds++[d])))):=by
 unfold y1l;rw[h];dsimp only;rw[hm];dsimp only;rw[if_pos hl]
theorem x9t(h:u Γ = .ok (.bl false,ws)):y4w w u Γ = .ok (.nx (Γ.set w (.own ws))):=by unfold y4w;rw[h]
theorem m_ix(h:u Γ = .ok (d,ws))(hb:gb (Γ.set w (.own ws)) = .ok b)(hr:dIx d b = .ok r):gIxM w u gb Γ = .ok (r,ws):=by unfold gIxM;rw[h];dsimp only;rw[hb];dsimp only;rw[hr]
theorem m_op{φ:D->D->R D}(h:u Γ = .ok (d,ws))(hb:gb (Γ.set w (.own ws)) = .ok b)(hr:φ d b = .ok r):gOpM φ w u gb Γ = .ok (r,ws):=by unfold gOpM;rw[h];dsimp only;rw[hb];dsimp only;rw[hr]
theorem x6f{φ:List D->R D}(h:u Γ = .ok (d,ws))(hr:φ [d] = .ok r):z7l φ u Γ = .ok (r,ws):=by unfold z7l;rw[h];dsimp only;rw[hr]
theorem z4e{φ:List D->R (D×List D)}{gs:G->R (List D)}{ds:List D}{x:D×List D}(h:gs Γ = .ok ds)(e:φ ds = .ok x):z2i φ gs Γ = .ok x:=by unfold z2i;rw[h];show R.good (φ ds)=_;rw[e];rfl
theorem x6e(h:g Γ = .ok d)(hw:Γ[i]? = some (.own ws)):y1k i g Γ = .ok (d,ws):=by unfold y1k;rw[h];show(match Γ[i]? with | some (.own ws)=>R.ok (d,ws) | _=>R.no)=_;rw[hw]
theorem x8c{c:G->R Bool}(h:c Γ = .ok true)(hr:u Γ=q):gIfM c u v Γ=q:=by unfold gIfM;rw[h];exact hr
theorem x9u{c:G->R Bool}(h:c Γ = .ok false)(hr:v Γ=q):gIfM c u v Γ=q:=by unfold gIfM;rw[h];exact hr
theorem x9v(h:t Γ = .ok (.nx Γ'))(hw:Γ'[i]? = some (.own ws)):z4h i t Γ = .ok (.non,ws):=by unfold z4h;rw[h];dsimp only;rw[hw]
theorem x8d{f:D->G->R (Option D)}{items total:List D}(h:u Γ = .ok (.lst items,ws))(hl:items.length<=100000)(et:z1k (fun d=>f d (Γ.set w (.own ws))) items [] = .ok total):z3u j w u f Γ = .ok (.nx ((Γ.set w (.own ws)).set j (.own total))):=by
 unfold z3u;rw[h];dsimp only;rw[if_pos hl,et]
end
theorem s_L{T:List D}{n:Nat}(h:n<=T.length)(hl:T.length<=100000):c_L [.lst T.reverse,.int n] = .ok (.lst (T.take n),(T.drop n).reverse):=by
 refine(z5w (as:=[]) (bs:=[.int n]) rfl rfl).trans ?_
 show g_L [.own T.reverse,.ro (.int n)]=_
 delta g_L
 have b1:decide (((T.length:Nat):Int)<(n:Int))=false:=decide_eq_false (by lia)
 refine m_st (y0j (by walk_at "evs";simp only[List.length_reverse,b1])) ?_
 unfold y7q
 show(match ([En.own T.reverse,.ro (.int n)]:G)[0]? with | some (.own ws)=>if (0<=(n:Int)/\(n:Int).toNat<=ws.length/\ws.length<=100000) then R.ok (D.lst (ws.reverse.take (n:Int).toNat),ws.take (ws.length-(n:Int).toNat)) else .no | _=>.no)=_
 show(if (0<=(n:Int)/\(n:Int).toNat<=T.reverse.length/\T.reverse.length<=100000) then R.ok (D.lst (T.reverse.reverse.take (n:Int).toNat),T.reverse.take (T.reverse.length-(n:Int).toNat)) else .no)=_
 rw[Int.toNat_natCast,List.length_reverse,if_pos ⟨by lia,h,hl⟩,List.reverse_reverse]
 have e:T.reverse.take (T.length-n)=(T.drop n).reverse:=by
  rw[List.reverse_drop]
 rw[e]
theorem z6o{d:D}{T:List D}(hl:T.length<100000):c_L [.lst (d::T).reverse,.int 1] = .ok (.lst [d],T.reverse):=by
 have:=s_L (T:=d::T) (n:=1) (by simp) (by simp only[List.length_cons];lia)
 simpa using this
theorem x2z(x:Str):eqD (.lst [.str x]) (.lst [.str x])=true:=z7a (by rw[x7q];simp[D.pl,D.pls])
theorem x2n{x:Str}(h:sOk x=true):D.lay 40 (.lst [.str x])=true:=by rw[x6h];simp[D.lay,h]
theorem z0v:∀xs:List Str,D.noLs (xs.map D.str)=true
 | []=>rfl
 | x::r=>by rw[List.map_cons];simp[D.noLs,D.noL,z0v r]
theorem x3r{x:Str}{T:List D}(hx:sOk x=true)(hl:T.length<100000):c_x [.lst (D.str x::T).reverse,.str x] = .ok (.non,T.reverse):=by
 refine(z5w (as:=[]) (bs:=[.str x]) rfl rfl).trans ?_
 show g_x [.own (D.str x::T).reverse,.ro (.str x)]=_
 delta g_x
 refine x9v (Γ':=[.own T.reverse,.ro (.str x)]) (x9t (ws:=T.reverse) (m_op (d:=.lst [.str x]) (b:=.lst [.str x]) (z4e (ds:=[.lst (D.str x::T).reverse,.int 1]) ?_ (z6o hl)) ?_ ?_)) rfl
 ·walk_at "evs"
 ·have n1:D.noLs [D.str x]=true:=z0v [x]
  walk_at "evs"
 ·have l1:=x2n hx
  have e1:=x2z x
  show R.guard _ _=_
  rw[z0h ⟨l1,l1⟩,e1]
  rfl
theorem x1l{a b:G->R D}{Γ:G}{r:R D}(h:a Γ = .ok (.bl true))(h2:b Γ=r):z4w a b Γ=r:=by unfold z4w;rw[h];exact h2
theorem y1w{w S:Str}{m:Int}(h1:1<=w.length)(h2:(w.length:Int)<=m)(h3:w.length<=100000)(h:∀c∈w.cps.toList,inS ⟨#[c]⟩ S=true):c_u [.str w,.str S,.int m] = .ok (.bl true):=by
 refine z1g rfl ?_
 delta g_u
 refine z2g ?_
 show z4w _ _ [En.ro (.str w),.ro (.str S),.ro (.int m)]=_
 have b1:decide ((1:Int)<=(w.length:Int))=true:=decide_eq_true (by lia)
 have b2:decide ((w.length:Int)<=m)=true:=decide_eq_true h2
 have hl:(z4z w).length<=100000:=by unfold z4z;rw[List.length_map];simpa [Str.length] using h3
 have ec:z2q (y0n (gV 0)) (fElt (gNL (gBin dInS (gV 0) (gV 2)))) [En.ro (.str w),.ro (.str S),.ro (.int m)] = .ok ((w.cps.toList.map fun _=>true).map D.bl):=by
  unfold z2q
  rw[show y0n (gV 0) [En.ro (.str w),.ro (.str S),.ro (.int m)] = .ok (z4z w) by walk_at "evs"]
  show R.guard _ _=_
  rw[z0h hl]
  unfold z4z
  rw[List.map_map]
  refine z1u fun c hc=>?_
  have:=h c hc
  walk_at "evs"
  rw[this];rfl
 refine x1l (by walk_at "evs";rw[b1]) (x1l (by walk_at "evs";rw[b2]) ?_)
 simp only[z0i,gCons,gNil,gL,ec]
 show dAll [.lst _]=_
 rw[z3z]
 simp
theorem x6q:∀c:Nat,48<=c->c<=57->inS ⟨#[c]⟩ "0123456789"=true:=by
 intro c h1 h2
 have:c=48∨c=49∨c=50∨c=51∨c=52∨c=53∨c=54∨c=55∨c=56∨c=57:=by lia
 rcases this with rfl | rfl | rfl | rfl | rfl | rfl | rfl | rfl | rfl | rfl<;>decide +kernel
theorem z9p{a b:Str}(ha:sOk a=true)(hb:sOk b=true):dEq (.str a) (.str b) = .ok (.bl (decide (a=b))):=by
 show R.guard _ _=_
 rw[z0h ⟨by rw[z2m];exact ha,by rw[z2m];exact hb⟩]
 by_cases q:a=b
 ·subst q;rw[decide_eq_true rfl,z7a rfl]
 ·rw[decide_eq_false q,z5h];simp[q]
theorem z9n{a b:Str}(ha:sOk a=true)(hb:sOk b=true):dNe (.str a) (.str b) = .ok (.bl (!decide (a=b))):=by
 show R.guard _ _=_
 rw[z0h ⟨by rw[z2m];exact ha,by rw[z2m];exact hb⟩]
 by_cases q:a=b
 ·subst q;rw[decide_eq_true rfl,z7a rfl]
 ·rw[decide_eq_false q,z5h];simp[q]
theorem x3d{n:Int}(h0:0<=n)(h1:n<=10^30):x0w [.str (numS n)] = .ok (.int n):=by
 unfold x0w
 show R.guard _ _=_
 rw[z0h (Nat.le_trans (z5j h0 h1) (by decide)),y7j h0 h1]
theorem x2g{n:Int}(h0:0<=n)(h1:n<=10^30):c_u [.str (numS n),.str "0123456789",.int 31] = .ok (.bl true):=by
 have l1:=x2h h0
 have l2:=z5j h0 h1
 exact y1w l1 (by lia) (by lia) fun c hc=>x6q c (z2l h0 c hc).1 (z2l h0 c hc).2
theorem y0z{n:Int}(h0:0<=n):sOk (numS n)=true:=by
 unfold sOk
 rw[<-Array.all_toList,List.all_eq_true]
 intro c hc
 have:=z2l h0 c hc
 simpa using (show c<0x110000 by lia)
theorem s_f{n:Int}(h0:0<=n)(h1:n<=10^30):c_f [.str (numS n)] = .ok (.int n):=by
 have l2:=z5j h0 h1
 have l3:(numS n).length<=100000:=by lia
 refine z1g rfl ?_
 delta g_f
 have hc:gOr (gNot (gT (z0i c_u (gCons (gV 0) (gCons (gC (.str "0123456789")) (gCons (gC (.int 31)) gNil)))))) (gAnd (gT (gBin dEq (gBin dIxS (gV 0) (gC (.int 0))) (gC (.str "0")))) (gT (gBin dNe (gV 0) (gC (.str "0"))))) [En.ro (.str (numS n))] = .ok false:=by
  have e1:=x2g h0 h1
  have q1:gNot (gT (z0i c_u (gCons (gV 0) (gCons (gC (.str "0123456789")) (gCons (gC (.int 31)) gNil))))) [En.ro (.str (numS n))] = .ok false:=by
   walk_at "evs"
   simp only[e1]
   walk_at "evs"
  unfold gOr
  rw[q1]
  show gAnd _ _ _=_
  cases hL:(numS n).cps.toList with
  | nil=>exact absurd hL (y4n h0)
  | cons c r =>
    have ei:dIxS (.str (numS n)) (.int 0) = .ok (.str ⟨#[c]⟩):=by
     unfold dIxS
     show R.guard _ _=_
     rw[z0h l3,hL,x1g (by lia)]
     rfl
    have lc:sOk ⟨#[c]⟩=true:=by
     have:=z2l h0 c (by rw[hL];exact List.mem_cons_self ..)
     simp only[sOk]
     simpa using (show c<0x110000 by lia)
    have k0:sOk "0"=true:=by decide +kernel
    have ln:=y0z h0
    by_cases q:c=48
    ·subst q
     have e0:=y9k h0 hL
     have z0:numS 0="0":=by decide +kernel
     have en:numS n="0":=e0.trans z0
     have ec:(⟨#[48]⟩:Str)="0":=by decide +kernel
     have q2:gT (gBin dEq (gBin dIxS (gV 0) (gC (.int 0))) (gC (.str "0"))) [En.ro (.str (numS n))] = .ok true:=by
      simp only[gT,gBin,gV,gC,z2p,R.bind_ok,ei,ec]
      rw[z9p k0 k0];simp[z7x]
     have q3:gT (gBin dNe (gV 0) (gC (.str "0"))) [En.ro (.str (numS n))] = .ok false:=by
      simp only[gT,gBin,gV,gC,z2p,R.bind_ok,en]
      rw[z9n k0 k0];simp[z7x]
     unfold gAnd
     rw[q2]
     exact q3
    ·have ne:(⟨#[c]⟩:Str)≠"0":=fun z=>q (by
      have:=congrArg (fun s:Str=>s.cps.toList) z
      have e48:("0":Str).cps.toList=[48]:=by decide +kernel
      dsimp only at this
      rw[e48] at this
      simpa using this)
     have q2:gT (gBin dEq (gBin dIxS (gV 0) (gC (.int 0))) (gC (.str "0"))) [En.ro (.str (numS n))] = .ok false:=by
      simp only[gT,gBin,gV,gC,z2p,R.bind_ok,ei]
      rw[z9p lc k0,decide_eq_false ne];rfl
     unfold gAnd
     rw[q2]
     rfl
 refine z1f hc ?_
 refine z2g ?_
 show z0i _ _ [En.ro (.str (numS n))]=_
 have:=x3d h0 h1
 simp only[z0i,gCons,gNil,gV,z2p,R.bind_ok,this]
mutual
noncomputable def Item.ws(ns:List Str):Item->List Str
 | .set x f=>"set"::ns.getD x.toNat ""::f.map numS
 | .again n its=>"again"::numS n::"["::(Item.wss ns its++[("]":Str)])
noncomputable def Item.wss(ns:List Str):List Item->List Str
 | []=>[]
 | a::r=>Item.ws ns a++Item.wss ns r
end
structure Names (ns:List Str):Prop where
 nd:ns.Nodup
 ok:∀x∈ns,sOk x=true
 l1:1<=ns.length
 l3:ns.length<=3
noncomputable def namD(ns:List Str):D:=.tup (ns.map D.str)
theorem y6x{P n:Int}(h0:0<=n)(h1:n<P)(h2:P<=9999):c_a [.int P,.str (numS n)] = .ok (.int n):=by
 have e:=s_f h0 (show n<=10^30 by lia)
 refine z1g rfl ?_
 delta g_a
 have b:decide (P<=n)=false:=decide_eq_false (by lia)
 refine z1x (d:=.int n) (by walk_at "evs";simp only[e];walk_at "evs") ?_
 refine z1f (by walk_at "evs";rw[b]) (z2g ?_)
 walk_at "evs"
theorem x2o{ns:List Str}(h:∀x∈ns,sOk x=true):D.lay 40 (namD ns)=true:=by
 unfold namD
 rw[z9d,List.all_eq_true]
 intro d hd
 obtain⟨x,hx,rfl⟩:=List.mem_map.mp hd
 rw[z2m];exact h x hx
theorem x6c{ns:List Str}(h:∀x∈ns,sOk x=true){x:Str}(hx:x∈ns):z7m (.str x) (namD ns) = .ok (.bl false):=by
 show R.guard _ _=_
 rw[z0h ⟨by rw[z2m];exact h x hx,x2o h⟩]
 have:(ns.map D.str).any (fun y=>eqD y (.str x))=true:=List.any_eq_true.mpr ⟨.str x,List.mem_map.mpr ⟨x,hx,rfl⟩,z7a rfl⟩
 rw[this];rfl
theorem x6b{ns:List Str}(N:Names ns){j:Nat}(hj:j<ns.length):z3v ns (ns.getD j "") = .ok (.int (j:Int)):=by
 have e:ns.getD j ""=ns[j]:=by simp[List.getD,hj]
 have f:ns.findIdx? (·==ns.getD j "")=some j:=by
  rw[e,List.findIdx?_eq_some_iff_getElem]
  refine⟨hj,by simp,fun k hk=>?_⟩
  have:ns[k]≠ns[j]:=fun z=>Nat.ne_of_lt hk ((List.getElem_inj N.nd).mp z)
  simpa using this
 unfold z3v
 rw[f]
 show R.guard _ _=_
 rw[z0h (by have:=N.l3;lia)]
theorem s_D{P x:Int}{f:List Int}{ns:List Str}{Z:List D}(N:Names ns)(h2:P<=9999)(x0:0<=x)(x1:x<ns.length)(hf:(f.length:Int)=ns.length+1)(ho:onW P f)(hZ:Z.length<=99000) :
 c_D [.int P,namD ns,.lst ((ns.getD x.toNat ""::f.map numS).map D.str++Z).reverse] = .ok ((Item.set x f).d,Z.reverse):=by
 obtain⟨j,rfl⟩:=Int.eq_ofNat_of_zero_le x0
 have hj:j<ns.length:=by lia
 have l3:=N.l3
 rw[Int.toNat_natCast]
 have hm:ns.getD j ""∈ns:=by
  have e:ns.getD j ""=ns[j]:=by simp[List.getD,hj]
  rw[e];exact List.getElem_mem hj
 generalize hnm:ns.getD j ""=nm at *
 have fl:f.length=ns.length+1:=by lia
 have eF:((f.map numS).map D.str).length=ns.length+1:=by rw[List.length_map,List.length_map,fl]
 generalize hF:(f.map numS).map D.str=F at *
 rw[List.map_cons,hF,List.cons_append]
 have t1:=z6o (d:=.str nm) (T:=F++Z) (by rw[List.length_append];lia)
 have t2:=s_L (T:=F++Z) (n:=ns.length+1) (by rw[List.length_append];lia) (by rw[List.length_append];lia)
 rw[List.take_left' eF,List.drop_left' eF] at t2
 refine(z5w (as:=[.int P,namD ns]) (bs:=[]) rfl rfl).trans ?_
 show g_D [.ro (.int P),.ro (namD ns),.own (D.str nm::(F++Z)).reverse,.no,.no]=_
 delta g_D
 refine m_st (y7k (d:=.str nm) (ws:=(F++Z).reverse) (m_ix (d:=.lst [.str nm]) (b:=.int 0) (z4e (ds:=[.lst (D.str nm::(F++Z)).reverse,.int 1]) (by walk_at "evs") t1) (by walk_at "evs") rfl)) ?_
 show gStM _ _ [En.ro (.int P),.ro (namD ns),.own (F++Z).reverse,.ro (.str nm),.no]=_
 refine m_st (y0j (by
  have:=x6c N.ok hm
  simp only[gT,gBin,gV,z2p,z1b,z5u,R.bind_ok,this,z7x])) ?_
 have ec:(((ns.length:Nat):Int)+1)=((ns.length+1:Nat):Int):=by lia
 refine m_st (x8d (items:=F) (ws:=Z.reverse) (total:=f.map D.int) (z4e (ds:=[.lst (F++Z).reverse,.int ((ns.length+1:Nat):Int)]) (by
  unfold namD
  walk_at "evs"
  simp only[List.length_map,ec]
  try walk_at "evs") t2) (by rw[eF];lia) ?_) ?_
 ·rw[<-hF,List.map_map]
  refine z1u fun v hv=>?_
  have ov:=ho v hv
  have e:=y6x (P:=P) (n:=v) ov.1 ov.2 h2
  show(fElt _) (.str (numS v)) [En.ro (.int P),.ro (namD ns),.own Z.reverse,.ro (.str nm),.no]=_
  simp only[fElt,gNL,z0i,gCons,gNil,gV,z2p,z1b,R.bind_ok,noEr,e]
  walk_at "evs"
  try rfl
 ·show y1k _ _ [En.ro (.int P),.ro (namD ns),.own Z.reverse,.ro (.str nm),.own (f.map D.int)]=_
  refine x6e ?_ rfl
  have ei:z9h (gV 1) (gV 3) [En.ro (.int P),.ro (namD ns),.own Z.reverse,.ro (.str nm),.own (f.map D.int)] = .ok (.int (j:Int)):=by
   have:=x6b N hj
   rw[hnm] at this
   simp only[z9h,gV,z2p,z1b,R.bind_ok,namD,strs?_map,this]
  have nr:=z5k f
  unfold rowD at nr
  simp only[Item.d,rowD,gTup,gCons,gNil,gNL,ei]
  walk_at "evs"
  try rfl
theorem y6a(d:D)(T:List D):dIx (.lst (d::T).reverse) (.int (-1)) = .ok d:=by
 have e:atI (d::T).reverse (-1)=some d:=by
  have h1:(-1+((d::T).reverse.length:Int)).toNat=T.length:=by rw[List.length_reverse,List.length_cons];lia
  rw[x7c (by lia) (by rw[List.length_reverse,List.length_cons];lia),h1,List.reverse_cons,List.getElem?_append_right (by simp)]
  simp
 simp only[dIx,e]
theorem Item.wss_len{P:Int}{ns:List Str}(h3:ns.length<=3):∀(k:Nat) (its:List Item),Item.manys its<=k->Item.oks P ns.length its->(Item.wss ns its).length<=6*Item.manys its
 | _,[],_,_=>Nat.zero_le _
 | 0,a::r,h,_=>by have:=a.many_pos;simp only[Item.manys] at h;lia
 | k+1,.set x f::r,h,ho=>by
   simp only[Item.oks,Item.ok] at ho
   simp only[Item.manys,Item.many] at h ⊢
   have:=Item.wss_len h3 k r (by lia) ho.2
   simp only[Item.wss,Item.ws,List.length_append,List.length_cons,List.length_map]
   lia
 | k+1,.again n i::r,h,ho=>by
   simp only[Item.oks,Item.ok] at ho
   simp only[Item.manys,Item.many] at h ⊢
   have h1:=Item.wss_len h3 k r (by lia) ho.2
   have h2:=Item.wss_len h3 k i (by lia) ho.1.2.2
   simp only[Item.wss,Item.ws,List.length_append,List.length_cons,List.length_nil]
   lia
noncomputable def Stop(Z:List D):Prop:=Z=[]∨∃Z',Z = .str "]"::Z'
noncomputable def goOn:G->R Bool:=gAnd (z8a (gV 2)) (gT (gBin dNe (gBin dIx (gV 2) (gNeg (gC (.int 1)))) (gC (.str "]"))))
theorem x6s{Z:List D}(h:Stop Z){e0 e1 e3 e4:En}:goOn [e0,e1,.own Z.reverse,e3,e4] = .ok false:=by
 unfold goOn
 rcases h with rfl | ⟨Z',rfl⟩
 ·rfl
 ·have q1:z8a (gV 2) [e0,e1,.own (D.str "]"::Z').reverse,e3,e4] = .ok true:=by
   simp only[z8a,gV,z1b,z5u,R.bind_ok]
   simp
  have q2:gT (gBin dNe (gBin dIx (gV 2) (gNeg (gC (.int 1)))) (gC (.str "]"))) [e0,e1,.own (D.str "]"::Z').reverse,e3,e4] = .ok false:=by
   have k0:sOk "]"=true:=by decide +kernel
   simp only[gT,gBin,gV,gC,gNeg,dNeg,z1b,z5u,R.bind_ok,y6a]
   rw[z9n k0 k0,decide_eq_true rfl];rfl
  unfold gAnd
  rw[q1]
  exact q2
theorem x8s{x:Str}(hx:sOk x=true)(ne:x≠"]"){T:List D}{e0 e1 e3 e4:En}:goOn [e0,e1,.own (D.str x::T).reverse,e3,e4] = .ok true:=by
 unfold goOn
 have q1:z8a (gV 2) [e0,e1,.own (D.str x::T).reverse,e3,e4] = .ok true:=by
  simp only[z8a,gV,z1b,z5u,R.bind_ok]
  simp
 have q2:gT (gBin dNe (gBin dIx (gV 2) (gNeg (gC (.int 1)))) (gC (.str "]"))) [e0,e1,.own (D.str x::T).reverse,e3,e4] = .ok true:=by
  have k0:sOk "]"=true:=by decide +kernel
  simp only[gT,gBin,gV,gC,gNeg,dNeg,z1b,z5u,R.bind_ok,y6a]
  rw[z9n hx k0,decide_eq_false ne];rfl
 unfold gAnd
 rw[q1]
 exact q2
theorem y0k{P:Int}{ns:List Str}{ar:Nat}{φ:List D->R (D×List D)}:∀(its:List Item) (Z:List D) (m:Nat) (ds:List D),its.length<m->ds.length+its.length<=60->Stop Z ->
 (∀a r,∀pre,its=pre++a::r->φ [.int P,namD ns,.lst ((Item.ws ns a).map D.str++((Item.wss ns r).map D.str++Z)).reverse,.int ar] = .ok (a.d,((Item.wss ns r).map D.str++Z).reverse)) ->
 whGo goOn (y1l 4 2 (z2i φ (gCons (gVr 0) (gCons (gVr 1) (z5q 2 (gCons (gVr 3) gNil)))))) m [.ro (.int P),.ro (namD ns),.own ((Item.wss ns its).map D.str++Z).reverse,.ro (.int ar),.own ds] = .ok (.nx [.ro (.int P),.ro (namD ns),.own Z.reverse,.ro (.int ar),.own (ds++its.map Item.d)])
 | _,_,0,_,h,_,_,_=>absurd h (Nat.not_lt_zero _)
 | [],Z,m+1,ds,_,_,hs,_=>by
   rw[z8m]
   simp only[Item.wss,List.map_nil,List.nil_append,List.append_nil]
   rw[x6s hs]
   rfl
 | a::r,Z,m+1,ds,h,hl,hs,hφ=>by
   have h1:=hφ a r [] rfl
   have ih:=y0k r Z m (ds++[a.d]) (by simp only[List.length_cons] at h;lia) (by simp only[List.length_append,List.length_cons,List.length_nil] at hl ⊢;lia) hs (fun b q pre e=>hφ b q (a::pre) (by rw[e];rfl))
   have ew:(Item.wss ns (a::r)).map D.str++Z=(Item.ws ns a).map D.str++((Item.wss ns r).map D.str++Z):=by rw[Item.wss,List.map_append,List.append_assoc]
   rw[ew,z8m]
   have hg:goOn [.ro (.int P),.ro (namD ns),.own ((Item.ws ns a).map D.str++((Item.wss ns r).map D.str++Z)).reverse,.ro (.int ar),.own ds] = .ok true:=by
    cases a with
    | set x f=>exact x8s (x:="set") (by decide +kernel) (by decide +kernel)
    | again n i=>exact x8s (x:="again") (by decide +kernel) (by decide +kernel)
   rw[hg]
   have hb:y1l 4 2 (z2i φ (gCons (gVr 0) (gCons (gVr 1) (z5q 2 (gCons (gVr 3) gNil))))) [.ro (.int P),.ro (namD ns),.own ((Item.ws ns a).map D.str++((Item.wss ns r).map D.str++Z)).reverse,.ro (.int ar),.own ds] = .ok (.nx [.ro (.int P),.ro (namD ns),.own ((Item.wss ns r).map D.str++Z).reverse,.ro (.int ar),.own (ds++[a.d])]):=by
    refine x9w (ds:=ds) (z4e (ds:=[.int P,namD ns,.lst ((Item.ws ns a).map D.str++((Item.wss ns r).map D.str++Z)).reverse,.int ar]) ?_ h1) rfl (by simp only[List.length_cons] at hl;lia)
    walk_at "evs"
   rw[z3c,if_pos rfl,hb]
   dsimp only
   rw[ih,List.append_assoc]
   rfl
theorem s_h{P:Int}{ns:List Str}(N:Names ns)(h2:P<=9999):∀(k:Nat) (its:List Item) (ar:Nat) (Z:List D),3*Item.deeps its+2<=k->ar+Item.deeps its<=3->Item.manys its<=60->Item.oks P ns.length its->Stop Z->Z.length+7*Item.manys its<=9000 ->
 c_h k [.int P,namD ns,.lst ((Item.wss ns its).map D.str++Z).reverse,.int ar] = .ok (.tup (its.map Item.d),Z.reverse)
 | 0,_,_,_,h,_,_,_,_,_=>by lia
 | 1,_,_,_,h,_,_,_,_,_=>by lia
 | k+2,its,ar,Z,h,har,hm,ho,hs,hz=>by
   have l3:=N.l3
   have hlen:=Item.manys_length its
   refine(z5w (as:=[.int P,namD ns]) (bs:=[.int ar]) rfl rfl).trans ?_
   show g_h (c_v (k+1)) (c_y (k+1)) (c_h (k+1)) [.ro (.int P),.ro (namD ns),.own ((Item.wss ns its).map D.str++Z).reverse,.ro (.int ar),.no]=_
   delta g_h
   refine m_st (y6b (ds:=[]) (by walk_at "evs")) ?_
   have lp:=y0k (P:=P) (ns:=ns) (ar:=ar) (φ:=c_y (k+1)) its Z 200 [] (by lia) (by simp only[List.length_nil];lia) hs ?_
   ·refine m_st lp (x6e ?_ rfl)
    have nI:=z9a its
    rw[List.nil_append]
    walk_at "evs"
   intro a r pre eq
   have hma:a∈its:=by rw[eq];simp
   have hda:=Item.deeps_le.mp (Nat.le_refl (Item.deeps its)) _ hma
   have oka:=Item.oks_iff.mp ho _ hma
   have okr:Item.oks P ns.length r:=Item.oks_iff.mpr fun b hb=>Item.oks_iff.mp ho b (by rw[eq];simp[hb])
   have hmm:a.many+Item.manys r<=Item.manys its:=by
    rw[eq,Item.manys_append]
    simp only[Item.manys]
    lia
   have wr:=Item.wss_len (P:=P) (ns:=ns) l3 _ r (Nat.le_refl _) okr
   have lY:((Item.wss ns r).map D.str++Z).length<=6*Item.manys r+Z.length:=by rw[List.length_append,List.length_map];lia
   generalize hY:(Item.wss ns r).map D.str++Z=Y at lY
   refine(z5w (as:=[.int P,namD ns]) (bs:=[.int ar]) rfl rfl).trans ?_
   show g_y (c_v k) (c_y k) (c_h k) [.ro (.int P),.ro (namD ns),.own ((Item.ws ns a).map D.str++Y).reverse,.ro (.int ar),.no]=_
   delta g_y
   have k1:sOk "set"=true:=by decide +kernel
   have k2:sOk "again"=true:=by decide +kernel
   cases a with
   | set x f =>
     simp only[Item.ok] at oka
     simp only[Item.many] at hmm
     have es:=s_D (P:=P) (x:=x) (f:=f) (ns:=ns) (Z:=Y) N h2 oka.1 oka.2.1 oka.2.2.1 oka.2.2.2 (by lia)
     generalize hV:(ns.getD x.toNat ""::f.map numS).map D.str++Y=V at es
     have eV:(Item.ws ns (.set x f)).map D.str++Y=D.str "set"::V:=by rw[<-hV];rfl
     have lV:V.length<100000:=by
      rw[<-hV,List.length_append,List.length_map,List.length_cons,List.length_map]
      have:=oka.2.2.1
      lia
     rw[eV]
     have t1:=z6o (d:=.str "set") (T:=V) lV
     refine m_st (y7k (d:=.str "set") (ws:=V.reverse) (m_ix (d:=.lst [.str "set"]) (b:=.int 0) (z4e (ds:=[.lst (D.str "set"::V).reverse,.int 1]) (by walk_at "evs") t1) (by walk_at "evs") rfl)) ?_
     show gIfM _ _ _ [En.ro (.int P),.ro (namD ns),.own V.reverse,.ro (.int ar),.ro (.str "set")]=_
     refine x8c ?_ (z4e (ds:=[.int P,namD ns,.lst V.reverse]) (by walk_at "evs") es)
     simp only[gT,gBin,gV,gC,z2p,z1b,R.bind_ok]
     rw[z9p k1 k1,decide_eq_true rfl];rfl
   | again n i =>
     simp only[Item.ok] at oka
     simp only[Item.many] at hmm
     simp only[Item.deep] at hda
     obtain⟨k,rfl⟩:∃k',k=k'+1:=⟨k-1,by lia⟩
     have ih:=s_h N h2 k i (ar+1) (.str "]"::Y) (by lia) (by lia) (by lia) oka.2.2 (.inr ⟨Y,rfl⟩) (by simp only[List.length_cons];lia)
     have wi:=Item.wss_len (P:=P) (ns:=ns) l3 _ i (Nat.le_refl _) oka.2.2
     have lW:((Item.wss ns i).map D.str++D.str "]"::Y).length<=6*Item.manys i+1+Y.length:=by rw[List.length_append,List.length_map,List.length_cons];lia
     generalize hW:(Item.wss ns i).map D.str++D.str "]"::Y=W at ih lW
     have eV:(Item.ws ns (.again n i)).map D.str++Y=D.str "again"::D.str (numS n)::D.str "["::W:=by
      rw[<-hW]
      simp only[Item.ws,List.map_cons,List.map_append,List.map_nil,List.cons_append,List.append_assoc,List.nil_append]
     have b1:decide ((3:Int)<=(ar:Int))=false:=decide_eq_false (by lia)
     have en:=s_f oka.1 oka.2.1
     have q1:sOk "["=true:=by decide +kernel
     have q2:sOk "]"=true:=by decide +kernel
     have t1:=z6o (d:=.str "again") (T:=D.str (numS n)::D.str "["::W) (by simp only[List.length_cons];lia)
     have t2:=z6o (d:=.str (numS n)) (T:=D.str "["::W) (by simp only[List.length_cons];lia)
     have t3:=x3r (x:="[") (T:=W) q1 (by lia)
     have t4:=x3r (x:="]") (T:=Y) q2 (by lia)
     have ea:(ar:Int)+1=((ar+1:Nat):Int):=by lia
     have nI:=z9a i
     have eg:c_v (k+1) [.int P,namD ns,.lst (D.str (numS n)::D.str "["::W).reverse,.int ar] = .ok ((Item.again n i).d,Y.reverse):=by
      refine(z5w (as:=[.int P,namD ns]) (bs:=[.int ar]) rfl rfl).trans ?_
      show g_v (c_v k) (c_y k) (c_h k) [.ro (.int P),.ro (namD ns),.own (D.str (numS n)::D.str "["::W).reverse,.ro (.int ar),.no,.no]=_
      delta g_v
      refine m_st (y0j (by walk_at "evs";rw[b1])) ?_
      refine m_st (y7k (d:=.int n) (ws:=(D.str "["::W).reverse) (x6f (d:=.str (numS n)) (m_ix (d:=.lst [.str (numS n)]) (b:=.int 0) (z4e (ds:=[.lst (D.str (numS n)::D.str "["::W).reverse,.int 1]) (by walk_at "evs") t2) (by walk_at "evs") rfl) en)) ?_
      show gStM _ _ [En.ro (.int P),.ro (namD ns),.own (D.str "["::W).reverse,.ro (.int ar),.ro (.int n),.no]=_
      refine m_st (m_ex (z4e (ds:=[.lst (D.str "["::W).reverse,.str "["]) (by walk_at "evs") t3)) ?_
      show gStM _ _ [En.ro (.int P),.ro (namD ns),.own W.reverse,.ro (.int ar),.ro (.int n),.no]=_
      refine m_st (y7k (z4e (ds:=[.int P,namD ns,.lst W.reverse,.int ((ar+1:Nat):Int)]) (by walk_at "evs";simp only[ea];try walk_at "evs") ih)) ?_
      show gStM _ _ [En.ro (.int P),.ro (namD ns),.own (D.str "]"::Y).reverse,.ro (.int ar),.ro (.int n),.ro (.tup (i.map Item.d))]=_
      refine m_st (m_ex (z4e (ds:=[.lst (D.str "]"::Y).reverse,.str "]"]) (by walk_at "evs") t4)) ?_
      refine x6e ?_ rfl
      show gTup _ [En.ro (.int P),.ro (namD ns),.own Y.reverse,.ro (.int ar),.ro (.int n),.ro (.tup (i.map Item.d))]=_
      walk_at "evs"
     rw[eV]
     refine m_st (y7k (d:=.str "again") (ws:=(D.str (numS n)::D.str "["::W).reverse) (m_ix (d:=.lst [.str "again"]) (b:=.int 0) (z4e (ds:=[.lst (D.str "again"::D.str (numS n)::D.str "["::W).reverse,.int 1]) (by walk_at "evs") t1) (by walk_at "evs") rfl)) ?_
     show gIfM _ _ _ [En.ro (.int P),.ro (namD ns),.own (D.str (numS n)::D.str "["::W).reverse,.ro (.int ar),.ro (.str "again")]=_
     have ne:("again":Str)≠"set":=by decide +kernel
     refine x9u ?_ (x8c ?_ (z4e (ds:=[.int P,namD ns,.lst (D.str (numS n)::D.str "["::W).reverse,.int ar]) (by walk_at "evs") eg))
     ·simp only[gT,gBin,gV,gC,z2p,z1b,R.bind_ok]
      rw[z9p k2 k1,decide_eq_false ne];rfl
     ·simp only[gT,gBin,gV,gC,z2p,z1b,R.bind_ok]
      rw[z9p k2 k2,decide_eq_true rfl];rfl
noncomputable def namS(l:Bool)(ns:List Str):D:=seqd l (ns.map D.str)
theorem z5m{n:Int}(h0:0<=n)(h1:n<=10^30):dStr [.int n] = .ok (.str (numS n)):=by
 show R.guard _ _=_
 rw[z0h]
 ·rfl
 ·obtain⟨m,rfl⟩:=Int.eq_ofNat_of_zero_le h0
  rw[Int.natAbs_natCast]
  by_cases q:m=0
  ·subst q;decide
  ·rw[Nat.log2_lt q]
   have h2:m<=10^30:=by
    have:(m:Int)<=((10^30:Nat):Int):=by simpa using h1
    exact Int.ofNat_le.mp this
   exact Nat.lt_of_le_of_lt h2 (by decide +kernel)
theorem s_I{P:Int}{f:List Int}(hP:P<=9999)(ho:onW P f)(hl:f.length<=100):c_I [rowD f] = .ok ((f.map numS).map D.str):=by
 refine y2x rfl ?_
 delta g_I
 refine y6c ?_
 show z2q _ _ [En.ro (rowD f)]=_
 unfold z2q
 have nf:D.noLs (f.map D.int)=true:=z1n f
 rw[show z4g (gV 0) [En.ro (rowD f)] = .ok (f.map D.int) by unfold rowD;walk_at "evs"]
 show R.guard _ _=_
 rw[z0h (by rw[List.length_map];lia),List.map_map]
 refine z1u fun v hv=>?_
 have ov:=ho v hv
 have e:=z5m ov.1 (show v<=10^30 by lia)
 simp only[fElt,gNL,z0i,gCons,gNil,gV,z2p,R.bind_ok,e]
 walk_at "evs"
 try rfl
theorem y9t{ns:List Str}{j:Nat}(hj:j<ns.length)(l:Bool):dIx (namS l ns) (.int (j:Int)) = .ok (.str (ns.getD j "")):=by
 have e:atI (ns.map D.str) (j:Int)=some (.str (ns.getD j "")):=by
  rw[z4k,List.getElem?_map]
  simp[List.getD,hj]
 unfold namS seqd
 cases l<;>simp only[if_true,if_false,dIx,e,Bool.false_eq_true]
theorem y7m{P:Int}{ns:List Str}{l:Bool}{a:Item}{φ:List D->R (List D)}{ψ:List D->R (List D)}(h3:ns.length<=3)(hP:P<=9999)(ho:a.ok P ns.length)(hm:a.many<=60)
 (hφ:∀n i,a = .again n i->φ [namS l ns,.tup (i.map Item.d)] = .ok ((Item.wss ns i).map D.str)):fnF 2 2 (g_c φ ψ) [namS l ns,a.d] = .ok ((Item.ws ns a).map D.str):=by
 refine y2x rfl ?_
 delta g_c
 cases a with
 | set x f =>
   simp only[Item.ok] at ho
   obtain⟨j,rfl⟩:=Int.eq_ofNat_of_zero_le ho.1
   have hj:j<ns.length:=by lia
   have e1:=y9t (ns:=ns) hj l
   have e2:=s_I hP ho.2.2.2 (by have:=ho.2.2.1;lia)
   refine x8w (y2o (by simp only[Item.d];walk_at "evs") (y6c ?_))
   have hl:((f.map numS).map D.str).length<=4:=by rw[List.length_map,List.length_map];have:=ho.2.2.1;lia
   show gCat _ _ [En.ro (namS l ns),.ro (Item.set (j:Int) f).d]=_
   have q1:gLst (gCons (gC (.str "set")) (gCons (gBin dIx (gV 0) (gBin dIx (gV 1) (gC (.int 1)))) gNil)) [En.ro (namS l ns),.ro (Item.set (j:Int) f).d] = .ok [.str "set",.str (ns.getD j "")]:=by
    have n2:[D.str "set",D.str (ns.getD j "")].length<=1000/\D.noLs [D.str "set",D.str (ns.getD j "")]=true:=⟨by simp,z0v ["set",ns.getD j ""]⟩
    simp only[Item.d,gLst,gCons,gNil,gBin,gV,gC,z2p,z1b,R.bind_ok,x3c,e1,z0h n2]
   have q2:z1v c_I (gCons (gBin dIx (gV 1) (gC (.int 2))) gNil) [En.ro (namS l ns),.ro (Item.set (j:Int) f).d] = .ok ((f.map numS).map D.str):=by
    simp only[Item.d,z1v,gCons,gNil,gBin,gV,gC,z2p,z1b,R.bind_ok,x3b,e2,z0h (z0v (f.map numS))]
   unfold gCat
   rw[q1,q2]
   show R.guard _ _=_
   rw[z0h (by simp only[List.length_cons,List.length_nil];lia)]
   simp only[Item.ws,Int.toNat_natCast,List.map_cons]
   rfl
 | again n i =>
   simp only[Item.ok] at ho
   simp only[Item.many] at hm
   have e1:=hφ n i rfl
   have e2:=z5m ho.1 ho.2.1
   have wi:=Item.wss_len (P:=P) (ns:=ns) h3 _ i (Nat.le_refl _) ho.2.2
   refine z1f (by simp only[Item.d];walk_at "evs") (y6c ?_)
   show gCat _ _ [En.ro (namS l ns),.ro (Item.again n i).d]=_
   have q1:gLst (gCons (gC (.str "again")) (gCons (z0i dStr (gCons (gBin dIx (gV 1) (gC (.int 1))) gNil)) (gCons (gC (.str "[")) gNil))) [En.ro (namS l ns),.ro (Item.again n i).d] = .ok [.str "again",.str (numS n),.str "["]:=by
    have n2:[D.str "again",D.str (numS n),D.str "["].length<=1000/\D.noLs [D.str "again",D.str (numS n),D.str "["]=true:=⟨by simp,z0v ["again",numS n,"["]⟩
    simp only[Item.d,gLst,z0i,gCons,gNil,gBin,gV,gC,z2p,z1b,R.bind_ok,x3c,e2,z0h n2]
   have q2:z1v φ (gCons (gV 0) (gCons (gBin dIx (gV 1) (gC (.int 2))) gNil)) [En.ro (namS l ns),.ro (Item.again n i).d] = .ok ((Item.wss ns i).map D.str):=by
    simp only[Item.d,Item.ds_map,z1v,gCons,gNil,gBin,gV,gC,z2p,z1b,R.bind_ok,x3b,e1,z0h (z0v (Item.wss ns i))]
   have q3:gLst (gCons (gC (.str "]")) gNil) [En.ro (namS l ns),.ro (Item.again n i).d] = .ok [.str "]"]:=by
    have n2:[D.str "]"].length<=1000/\D.noLs [D.str "]"]=true:=⟨by simp,z0v ["]"]⟩
    simp only[gLst,gCons,gNil,gC,R.bind_ok,z0h n2]
   have lw:((Item.wss ns i).map D.str).length<=360:=by rw[List.length_map];lia
   have q4:gCat (gLst (gCons (gC (.str "again")) (gCons (z0i dStr (gCons (gBin dIx (gV 1) (gC (.int 1))) gNil)) (gCons (gC (.str "[")) gNil)))) (z1v φ (gCons (gV 0) (gCons (gBin dIx (gV 1) (gC (.int 2))) gNil))) [En.ro (namS l ns),.ro (Item.again n i).d] = .ok ([.str "again",.str (numS n),.str "["]++(Item.wss ns i).map D.str):=by
    unfold gCat
    rw[q1,q2]
    show R.guard _ _=_
    rw[z0h (by simp only[List.length_cons,List.length_nil];lia)]
   rw[gCat,q4,q3]
   show R.guard _ _=_
   rw[z0h (by simp only[List.length_append,List.length_cons,List.length_nil];lia)]
   simp only[Item.ws,List.map_cons,List.map_append,List.map_nil,List.cons_append,List.nil_append]
theorem z8d(ns:List Str):∀(its:List Item) (j:Nat) (a:Item),its[j]? = some a->Item.wss ns (its.take (j+1))=Item.wss ns (its.take j)++Item.ws ns a
 | [],j,a,h=>by cases j<;>cases h
 | b::r,0,a,h=>by cases h;simp[Item.wss]
 | b::r,j+1,a,h=>by
   rw[List.take_succ_cons,List.take_succ_cons,Item.wss,Item.wss,z8d ns r j a (by simpa using h),List.append_assoc]
theorem z7p{P:Int}{ns:List Str}(h3:ns.length<=3){its:List Item}(ho:Item.oks P ns.length its)(hm:Item.manys its<=60)(j:Nat):(Item.wss ns (its.take j)).length<=360:=by
 have h1:Item.oks P ns.length (its.take j):=Item.oks_iff.mpr fun a ha=>Item.oks_iff.mp ho a (List.mem_of_mem_take ha)
 have h2:Item.manys (its.take j)<=Item.manys its:=by
  have:=Item.manys_append (a:=its.take j) (b:=its.drop j)
  rw[List.take_append_drop] at this
  lia
 have:=Item.wss_len (P:=P) (ns:=ns) h3 _ (its.take j) (Nat.le_refl _) h1
 lia
theorem s_E{P:Int}{ns:List Str}{l:Bool}(h3:ns.length<=3)(hP:P<=9999):∀(k:Nat) (its:List Item),2*Item.deeps its+2<=k->Item.manys its<=60->Item.oks P ns.length its->c_E k [namS l ns,.tup (its.map Item.d)] = .ok ((Item.wss ns its).map D.str)
 | 0,_,h,_,_=>by lia
 | 1,_,h,_,_=>by lia
 | k+2,its,h,hm,ho=>by
   show fnF 2 4 (g_E (c_E (k+1)) (c_c (k+1))) _=_
   refine y2x rfl ?_
   delta g_E
   have hlen:=Item.manys_length its
   have n0:D.noLs []=true:=rfl
   refine z3w (ds:=[]) (by walk_at "evs") ?_
   refine z9v (ds:=its.map Item.d) (fun j Γ=>∃(x3:En),Γ=[.ro (namS l ns),.ro (.tup (its.map Item.d)),.own ((Item.wss ns (its.take j)).map D.str),x3]) (by walk_at "evs") ⟨_,rfl⟩ ?_ ?_
   ·rintro j d Γ hd ⟨x3,rfl⟩
    obtain⟨a,ea,rfl,ha⟩:=y2s hd
    have oka:=Item.oks_iff.mp ho _ ha
    have hda:=Item.deeps_le.mp (Nat.le_refl (Item.deeps its)) _ ha
    have hma:=Item.many_mem ha
    have e:c_c (k+1) [namS l ns,a.d] = .ok ((Item.ws ns a).map D.str):=by
     refine y7m h3 hP oka (by lia) fun n i e=>?_
     subst e
     simp only[Item.ok] at oka
     simp only[Item.deep] at hda
     simp only[Item.many] at hma
     exact s_E h3 hP k i (by lia) (by lia) oka.2.2
    refine .nx (w0b (ds:=(Item.wss ns (its.take j)).map D.str) (es:=(Item.ws ns a).map D.str) rfl ?_ ?_) ⟨.ro a.d,?_⟩
    ·show z1v _ _ [En.ro (namS l ns),.ro (.tup (its.map Item.d)),.own ((Item.wss ns (its.take j)).map D.str),.ro a.d]=_
     simp only[z1v,gCons,gNil,gV,z2p,z1b,R.bind_ok,e,z0h (z0v (Item.ws ns a))]
    ·have q1:=z7p (P:=P) h3 ho hm (j+1)
     rw[z8d ns its j a ea,List.length_append] at q1
     rw[List.length_map,List.length_map]
     lia
    ·rw[z8d ns its j a ea,List.map_append]
     rfl
   ·rintro Γ ⟨x3,rfl⟩
    rw[List.length_map,List.take_length]
    exact x4h rfl
noncomputable def z4r(w:Str):Prop:=w.length<=31/\∀c∈w.cps.toList,c≠32/\c≠10
structure NamesF (ns:List Str):Prop extends Names ns where
 w1:∀x∈ns,1<=x.length/\x.length<=8
 lt:∀x∈ns,∀c∈x.cps.toList,97<=c/\c<=122
 nk:∀x∈ns,x≠"set"/\x≠"again"
theorem z8r{n:Int}(h0:0<=n)(h1:n<=10^30):z4r (numS n):=⟨z5j h0 h1,fun c hc=>by have:=z2l h0 c hc;lia⟩
theorem y0g{ns:List Str}(N:NamesF ns){x:Str}(hx:x∈ns):z4r x:=⟨by have:=(N.w1 x hx).2;lia,fun c hc=>by have:=N.lt x hx c hc;lia⟩
theorem y8x:z4r "set":=⟨by decide +kernel,by decide +kernel⟩
theorem y4b:z4r "again":=⟨by decide +kernel,by decide +kernel⟩
theorem y7c:z4r "[":=⟨by decide +kernel,by decide +kernel⟩
theorem y7b:z4r "]":=⟨by decide +kernel,by decide +kernel⟩
theorem plain_M:z4r "prime":=⟨by decide +kernel,by decide +kernel⟩
theorem y4a:z4r "boxes":=⟨by decide +kernel,by decide +kernel⟩
theorem x1z:z4r "do":=⟨by decide +kernel,by decide +kernel⟩
theorem y0i{ns:List Str}{j:Nat}(hj:j<ns.length):ns.getD j ""∈ns:=by
 have e:ns.getD j ""=ns[j]:=by simp[List.getD,hj]
 rw[e];exact List.getElem_mem hj
theorem z6i{P:Int}{ns:List Str}(N:NamesF ns)(hP:P<=9999):∀(k:Nat) (its:List Item),Item.manys its<=k->Item.oks P ns.length its->∀w∈Item.wss ns its,z4r w
 | _,[],_,_,w,hw=>by simp[Item.wss] at hw
 | 0,a::r,h,_,_,_=>by have:=a.many_pos;simp only[Item.manys] at h;lia
 | k+1,.set x f::r,h,ho,w,hw=>by
   simp only[Item.oks,Item.ok] at ho
   simp only[Item.manys,Item.many] at h
   simp only[Item.wss,Item.ws,List.cons_append,List.mem_cons,List.mem_append] at hw
   rcases hw with rfl | rfl | hw | hw
   ·exact y8x
   ·exact y0g N (y0i (by lia))
   ·obtain⟨v,hv,rfl⟩:=List.mem_map.mp hw
    have:=ho.1.2.2.2 v hv
    exact z8r this.1 (by lia)
   ·exact z6i N hP k r (by lia) ho.2 w hw
 | k+1,.again n i::r,h,ho,w,hw=>by
   simp only[Item.oks,Item.ok] at ho
   simp only[Item.manys,Item.many] at h
   simp only[Item.wss,Item.ws,List.cons_append,List.mem_cons,List.mem_append,List.append_assoc,List.not_mem_nil,or_false,false_or] at hw
   rcases hw with rfl | rfl | rfl | hw | rfl | hw
   ·exact y4b
   ·exact z8r ho.1.1 ho.1.2.1
   ·exact y7c
   ·exact z6i N hP k i (by lia) ho.1.2.2 w hw
   ·exact y7b
   ·exact z6i N hP k r (by lia) ho.2 w hw
theorem z8x:(" ":Str)=one 32:=by decide +kernel
theorem z8i:("\n":Str)=one 10:=by decide +kernel
theorem z8j(s:Nat):∀{xs:List Str} {c:Nat},c∈(Str.join (one s) xs).cps.toList->c=s∨∃x∈xs,c∈x.cps.toList
 | [],c,h=>by simp[Str.join,Str.empty] at h
 | [x],c,h=>.inr ⟨x,List.mem_cons_self ..,h⟩
 | x::y::r,c,h=>by
   rw[z6x] at h
   rcases List.mem_append.mp h with h | h
   ·exact .inr ⟨x,List.mem_cons_self ..,h⟩
   ·rcases List.mem_cons.mp h with h | h
    ·exact .inl h
    ·rcases z8j s h with h | ⟨z,hz,hc⟩
     ·exact .inl h
     ·exact .inr ⟨z,List.mem_cons_of_mem _ hz,hc⟩
noncomputable def rowT(ws:List Str):Str:=Txt.join " " ws
theorem y1b(ws:List Str):rowT ws=Str.join (one 32) ws:=by unfold rowT;rw[z8x];exact StrLaws.glued_eq_join _ _
theorem y8g{B:Nat}:∀(xs:List Str),(∀y∈xs,y.length<=B)->(xs.map (·.length)).sum<=xs.length*B
 | [],_=>by simp
 | y::r,h=>by
   have h1:=h y (List.mem_cons_self ..)
   have h2:=y8g r fun z hz=>h z (List.mem_cons_of_mem _ hz)
   simp only[List.map_cons,List.sum_cons,List.length_cons,Nat.succ_mul]
   lia
theorem y1a{ws:List Str}(h:∀w∈ws,z4r w):(rowT ws).length<=32*ws.length:=by
 rw[y1b]
 have h1:=StrLaws.join_length_le (one 32) ws
 have h2:=y8g (B:=31) ws fun y hy=>(h y hy).1
 have h3:(one 32).length=1:=rfl
 rw[h3] at h1
 lia
theorem y3w{ws:List Str}(h:∀w∈ws,z4r w)(hl:ws.length<=1000):JoinOk " " ws=true:=by
 unfold JoinOk
 rw[z8x]
 have h3:(one 32).length=1:=rfl
 rw[StrLaws.joinFits (B:=31) (fun y hy=>(h y hy).1) (by rw[h3];lia)];rfl
theorem y6y{ws:List Str}(h:∀w∈ws,z4r w)(h0:ws≠[]):Txt.split (rowT ws) " "=ws:=by
 unfold rowT
 rw[z8x]
 exact y0e 32 h0 fun x hx z=>((h x hx).2 32 z).1 rfl
theorem y8o{ws:List Str}(h:∀w∈ws,z4r w):10 ∉ (rowT ws).cps.toList:=fun z=>by
 rw[y1b] at z
 rcases z8j 32 z with e | ⟨x,hx,hc⟩
 ·exact absurd e (by decide)
 ·exact((h x hx).2 10 hc).2 rfl
noncomputable def z6j(rs:List (List Str)):Str:=Txt.join "\n" (rs.map rowT)
theorem y5k{rs:List (List Str)}(h:∀ws∈rs,ws.length<=400/\∀w∈ws,z4r w)(hl:rs.length<=3):JoinOk "\n" (rs.map rowT)=true:=by
 unfold JoinOk
 rw[z8i]
 have h3:(one 10).length=1:=rfl
 rw[StrLaws.joinFits (B:=12800) (fun y hy=>by
  obtain⟨ws,hw,rfl⟩:=List.mem_map.mp hy
  have:=y1a (h ws hw).2
  have:=(h ws hw).1
  lia) (by rw[h3,List.length_map];lia)];rfl
theorem y8f{rs:List (List Str)}(h:∀ws∈rs,ws.length<=400/\∀w∈ws,z4r w)(hl:rs.length<=3):(z6j rs).length<=50000:=by
 unfold z6j
 have e:Txt.join "\n" (rs.map rowT)=Str.join (one 10) (rs.map rowT):=by rw[z8i];exact StrLaws.glued_eq_join _ _
 rw[e]
 have h1:=StrLaws.join_length_le (one 10) (rs.map rowT)
 have h2:=y8g (B:=12800) (rs.map rowT) fun y hy=>by
  obtain⟨ws,hw,rfl⟩:=List.mem_map.mp hy
  have:=y1a (h ws hw).2
  have:=(h ws hw).1
  lia
 have h3:(one 10).length=1:=rfl
 rw[h3] at h1
 rw[List.length_map] at h1 h2
 lia
theorem y3u{rs:List (List Str)}(h:∀ws∈rs,ws.length<=400/\∀w∈ws,z4r w)(h0:rs≠[]):Txt.split (z6j rs) "\n"=rs.map rowT:=by
 unfold z6j
 rw[z8i]
 refine y0e 10 (by simpa using h0) fun x hx=>?_
 obtain⟨ws,hw,rfl⟩:=List.mem_map.mp hx
 exact y8o (h ws hw).2
noncomputable def z1y(P:Int)(ns:List Str)(its:List Item):List (List Str):=[["prime",numS P],"boxes"::ns,"do"::Item.wss ns its]
theorem z8g{P:Int}{ns:List Str}{its:List Item}(N:NamesF ns)(h0:0<=P)(hP:P<=9999)(hm:Item.manys its<=60)(ho:Item.oks P ns.length its):∀ws∈z1y P ns its,ws.length<=400/\∀w∈ws,z4r w:=by
 intro ws hw
 have l3:=N.l3
 have wl:=Item.wss_len (P:=P) (ns:=ns) l3 _ its (Nat.le_refl _) ho
 simp only[z1y,List.mem_cons,List.not_mem_nil,or_false] at hw
 rcases hw with rfl | rfl | rfl
 ·refine⟨by simp,fun w hw=>?_⟩
  simp only[List.mem_cons,List.not_mem_nil,or_false] at hw
  rcases hw with rfl | rfl
  ·exact plain_M
  ·exact z8r h0 (by lia)
 ·refine⟨by simp only[List.length_cons];lia,fun w hw=>?_⟩
  rcases List.mem_cons.mp hw with rfl | hw
  ·exact y4a
  ·exact y0g N hw
 ·refine⟨by simp only[List.length_cons];lia,fun w hw=>?_⟩
  rcases List.mem_cons.mp hw with rfl | hw
  ·exact x1z
  ·exact z6i N hP _ its (Nat.le_refl _) ho w hw
theorem z9e{sep:Str}{ws:List Str}(h:JoinOk sep ws=true){g:G->R D}{Γ:G}(hg:g Γ = .ok (.lst (ws.map D.str))):y0b sep g Γ = .ok (.str (Txt.join sep ws)):=by
 unfold y0b
 rw[hg,R.bind_ok]
 dsimp only
 rw[strs?_map]
 dsimp only
 rw[z0h h]
theorem z3b{gs:G->R (List D)}{Γ:G}{ws:List Str}(h:gs Γ = .ok (ws.map D.str))(hl:ws.length<=1000):gLst gs Γ = .ok (ws.map D.str):=by
 unfold gLst
 rw[h,R.bind_ok,z0h ⟨by rw[List.length_map];exact hl,z0v ws⟩]
theorem z4q{ga gb:G->R (List D)}{Γ:G}{us ws:List Str}(h1:ga Γ = .ok (us.map D.str))(h2:gb Γ = .ok (ws.map D.str))(hl:us.length+ws.length<=1000):gCat ga gb Γ = .ok ((us++ws).map D.str):=by
 unfold gCat
 rw[h1,h2,R.bind_ok,R.bind_ok,z0h (by rw[List.length_map,List.length_map];exact hl),List.map_append]
theorem z7i{ns:List Str}{l:Bool}{g:G->R D}{Γ:G}(h:g Γ = .ok (namS l ns)):z4v g Γ = .ok (ns.map D.str):=by
 unfold z4v
 rw[h,R.bind_ok]
 unfold namS seqd
 cases l<;>simp only[if_true,if_false,Bool.false_eq_true,y5b,z0h (z0v ns)]
theorem z3q{φ:List D->R (List D)}{gs:G->R (List D)}{Γ:G}{ds:List D}{ws:List Str}(h:gs Γ = .ok ds)(e:φ ds = .ok (ws.map D.str)):z1v φ gs Γ = .ok (ws.map D.str):=by
 unfold z1v
 rw[h,R.bind_ok,e,R.bind_ok,z0h (z0v ws)]
theorem z5p{gs:G->R (List D)}{Γ:G}{ds:List D}(h:gs Γ = .ok ds):gL gs Γ = .ok (.lst ds):=by unfold gL;rw[h];rfl
theorem z0j{g:G->R D}{gs:G->R (List D)}{Γ:G}{d:D}{ds:List D}(h:g Γ = .ok d)(h2:gs Γ = .ok ds):gCons g gs Γ = .ok (d::ds):=by unfold gCons;rw[h,h2];rfl
theorem z1r{φ:List D->R D}{gs:G->R (List D)}{Γ:G}{ds:List D}{r:R D}(h:gs Γ = .ok ds)(e:φ ds=r):z0i φ gs Γ=r:=by unfold z0i;rw[h];exact e
theorem z3f{g:G->R D}{Γ:G}{d:D}(h:g Γ = .ok d)(n:d.noL=true):gNL g Γ = .ok d:=by unfold gNL;rw[h,R.bind_ok,z0h n]
theorem y4r{gs:G->R (List D)}{Γ:G}{ds:List D}(h:gs Γ = .ok ds)(hl:ds.length<=1000):y0a gs Γ = .ok ds:=by unfold y0a;rw[h,R.bind_ok,z0h hl]
theorem s_N{P:Int}{ns:List Str}{its:List Item}{l:Bool}(N:NamesF ns)(h0:0<=P)(hP:P<=9999)(hm:Item.manys its<=60)(hd:Item.deeps its<=4)(ho:Item.oks P ns.length its):c_N [.int P,namS l ns,.tup (its.map Item.d)] = .ok (.str (z6j (z1y P ns its))):=by
 have l3:=N.l3
 have ok3:=z8g N h0 hP hm ho
 have wl:=Item.wss_len (P:=P) (ns:=ns) l3 _ its (Nat.le_refl _) ho
 have ew:=s_E (P:=P) (ns:=ns) (l:=l) l3 hP 12 its (by lia) hm ho
 have es:=z5m h0 (show P<=10^30 by lia)
 refine z1g rfl ?_
 delta g_N
 refine z1x (d:=.lst ((z1y P ns its).map fun ws=>.lst (ws.map D.str))) ?_ ?_
 ·show gL _ [En.ro (.int P),.ro (namS l ns),.ro (.tup (its.map Item.d)),.no]=_
  refine z5p (y4r (z0j ?_ (z0j ?_ (z0j ?_ rfl))) (by simp[z1y]))
  ·refine z5p (ds:=(["prime",numS P]:List Str).map D.str) (y4r (z0j (z3f rfl rfl) (z0j (z3f (z1r (z0j rfl rfl) es) rfl) rfl)) (by simp))
  ·refine z5p (ds:=(("boxes":Str)::ns).map D.str) (z4q (us:=["boxes"]) (z3b (ws:=["boxes"]) rfl (by simp)) (z7i rfl) (by simp only[List.length_cons,List.length_nil];lia))
  ·refine z5p (ds:=(("do":Str)::Item.wss ns its).map D.str) (z4q (us:=["do"]) (z3b (ws:=["do"]) rfl (by simp)) (z3q (z0j rfl (z0j rfl rfl)) ew) (by simp only[List.length_cons,List.length_nil];lia))
 ·refine z2g ?_
  show y0b _ _ [En.ro (.int P),.ro (namS l ns),.ro (.tup (its.map Item.d)),.ro (.lst ((z1y P ns its).map fun ws=>.lst (ws.map D.str)))]=_
  refine z9e (ws:=(z1y P ns its).map rowT) (y5k ok3 (by simp[z1y])) (z5p ?_)
  unfold z2q
  rw[show gSeq (gVr 3) [En.ro (.int P),.ro (namS l ns),.ro (.tup (its.map Item.d)),.ro (.lst ((z1y P ns its).map fun ws=>.lst (ws.map D.str)))] = .ok ((z1y P ns its).map fun ws=>.lst (ws.map D.str)) from rfl]
  show R.guard _ _=_
  rw[z0h (by simp[z1y]),List.map_map]
  refine z1u fun ws hw=>?_
  have:=z9e (sep:=" ") (ws:=ws) (y3w (ok3 ws hw).2 (by have:=(ok3 ws hw).1;lia)) (g:=gV 0) (Γ:=En.ro (.lst (ws.map D.str))::[En.ro (.int P),.ro (namS l ns),.ro (.tup (its.map Item.d)),.ro (.lst ((z1y P ns its).map fun ws=>.lst (ws.map D.str)))]) rfl
  have e2:=z3f this rfl
  show(gNL (y0b " " (gV 0)) _>>=fun e=>R.ok (some e))=_
  rw[e2]
  rfl
theorem y3i{ga gb:G->R D}{Γ:G}{us ws:List Str}(h1:ga Γ = .ok (.lst (us.map D.str)))(h2:gb Γ = .ok (.lst (ws.map D.str)))(hl:us.length+ws.length<=1000):z7k ga gb Γ = .ok ((us++ws).map D.str):=by
 unfold z7k
 rw[h1,h2,R.bind_ok,R.bind_ok]
 show R.guard _ _=_
 rw[<-List.map_append,z0h ⟨by rw[List.length_map,List.length_map];exact hl,z0v _⟩]
theorem y5n{P:Int}{ns:List Str}(h3:ns.length<=3)(hP:P<=9999):∀(k:Nat) (its:List Item),Item.deeps its<k->Item.manys its<=60->Item.oks P ns.length its->c_o k [namS false ns,.tup (its.map Item.d)] = .ok ((Item.wss ns its).map D.str)
 | 0,_,h,_,_=>by lia
 | k+1,its,h,hm,ho=>by
   show fnF 2 4 (g_o (c_o k)) _=_
   refine y2x rfl ?_
   delta g_o
   refine z3w (ds:=([]:List Str).map D.str) (z3b (ws:=[]) rfl (by simp)) ?_
   refine z9v (ds:=its.map Item.d) (fun j Γ=>∃(x3:En),Γ=[.ro (namS false ns),.ro (.tup (its.map Item.d)),.own ((Item.wss ns (its.take j)).map D.str),x3]) rfl ⟨_,rfl⟩ ?_ ?_
   ·rintro j d Γ hd ⟨x3,rfl⟩
    obtain⟨a,ea,rfl,ha⟩:=y2s hd
    have oka:=Item.oks_iff.mp ho _ ha
    have hda:=Item.deeps_le.mp (Nat.le_refl (Item.deeps its)) _ ha
    have hma:=Item.many_mem ha
    have q1:=z7p (P:=P) h3 ho hm (j+1)
    have q0:=z8d ns its j a ea
    rw[q0,List.length_append] at q1
    show Ends (gIfS _ _ _ [En.ro (namS false ns),.ro (.tup (its.map Item.d)),.own ((Item.wss ns (its.take j)).map D.str),.ro a.d]) _
    generalize hU:Item.wss ns (its.take j)=U at q0 q1
    cases a with
    | set x f =>
      simp only[Item.ok] at oka
      obtain⟨i,rfl⟩:=Int.eq_ofNat_of_zero_le oka.1
      have e1:=y9t (ns:=ns) (show i<ns.length by lia) false
      rw[y2o (by simp only[Item.d];walk_at "evs") rfl]
      refine .nx (y6b (ds:=(U++Item.ws ns (.set (i:Int) f)).map D.str) ?_) ⟨_,by rw[q0];rfl⟩
      have ws_eq:U++Item.ws ns (.set (i:Int) f)=(U++([("set":Str),ns.getD i ""]:List Str))++f.map numS:=by simp only[Item.ws,Int.toNat_natCast,List.append_assoc,List.cons_append,List.nil_append]
      rw[<-List.length_append,ws_eq] at q1
      rw[ws_eq]
      simp only[List.length_append,List.length_cons,List.length_nil,List.length_map] at q1
      refine z4q (y3i rfl (z5p (z3b (ws:=["set",ns.getD i ""]) (z0j rfl (z0j ?_ rfl)) (by simp))) (by simp only[List.length_cons,List.length_nil];lia)) ?_ (by simp only[List.length_append,List.length_cons,List.length_nil,List.length_map];lia)
      ·simp only[Item.d,gBin,gV,gC,z2p,z1b,R.bind_ok,x3c,e1]
      ·unfold z2q
       have nf:D.noLs (f.map D.int)=true:=z1n f
       rw[show z4g (gBin dIx (gV 3) (gC (.int 2))) [En.ro (namS false ns),.ro (.tup (its.map Item.d)),.own (U.map D.str),.ro (Item.set (i:Int) f).d] = .ok (f.map D.int) by
        simp only[Item.d,z4g,gBin,gV,gC,z2p,z1b,R.bind_ok,x3b,rowD,dSeq,z0h nf]]
       show R.guard _ _=_
       rw[z0h (by rw[List.length_map];lia),List.map_map]
       refine z1u fun v hv=>?_
       have ov:=oka.2.2.2 v hv
       have e:=z5m ov.1 (show v<=10^30 by lia)
       simp only[fElt,gNL,z0i,gCons,gNil,gV,z2p,R.bind_ok,e]
       walk_at "evs"
       try rfl
    | again n i =>
      simp only[Item.ok] at oka
      simp only[Item.deep] at hda
      simp only[Item.many] at hma
      have ih:=y5n h3 hP k i (by lia) (by lia) oka.2.2
      have e2:=z5m oka.1 oka.2.1
      rw[x6j (by simp only[Item.d];walk_at "evs") rfl]
      refine .nx (y6b (ds:=(U++Item.ws ns (.again n i)).map D.str) ?_) ⟨_,by rw[q0];rfl⟩
      have ws_eq:U++Item.ws ns (.again n i)=((U++([("again":Str),numS n,"["]:List Str))++Item.wss ns i)++([("]":Str)]:List Str):=by simp only[Item.ws,List.append_assoc,List.cons_append,List.nil_append]
      rw[<-List.length_append,ws_eq] at q1
      rw[ws_eq]
      simp only[List.length_append,List.length_cons,List.length_nil] at q1
      refine z4q (z4q (y3i rfl (z5p (z3b (ws:=["again",numS n,"["]) (z0j rfl (z0j ?_ (z0j rfl rfl))) (by simp))) (by simp only[List.length_cons,List.length_nil];lia)) (z3q (z0j rfl (z0j ?_ rfl)) ih) (by simp only[List.length_append,List.length_cons,List.length_nil];lia)) (z3b (ws:=["]"]) rfl (by simp)) (by simp only[List.length_append,List.length_cons,List.length_nil];lia)
      ·refine z1r (ds:=[.int n]) (z0j ?_ rfl) e2
       simp only[Item.d,gBin,gV,gC,z2p,z1b,R.bind_ok,x3c]
      ·simp only[Item.d,Item.ds_map,gBin,gV,gC,z2p,z1b,R.bind_ok,x3b]
   ·rintro Γ ⟨x3,rfl⟩
    rw[List.length_map,List.take_length]
    exact x4h rfl
theorem y8r(x:Str):("prime ":Str)++x=rowT ["prime",x]:=by
 rw[y1b]
 show _="prime"++one 32++x
 rw[show("prime":Str)++one 32="prime " by decide +kernel]
theorem x4z{P:Int}{ns:List Str}{its:List Item}(N:NamesF ns)(h0:0<=P)(hP:P<=9999)(hm:Item.manys its<=60)(hd:Item.deeps its<=4)(ho:Item.oks P ns.length its):c_A [.int P,namS false ns,.tup (its.map Item.d)] = .ok (.str (z6j (z1y P ns its))):=by
 have l3:=N.l3
 have ok3:=z8g N h0 hP hm ho
 have wl:=Item.wss_len (P:=P) (ns:=ns) l3 _ its (Nat.le_refl _) ho
 have ew:=y5n (P:=P) (ns:=ns) l3 hP 12 its (by lia) hm ho
 have es:=z5m h0 (show P<=10^30 by lia)
 refine z1g rfl ?_
 delta g_A
 refine z3w (ds:=((z1y P ns its).map rowT).map D.str) ?_ ?_
 ·show gLst _ [En.ro (.int P),.ro (namS false ns),.ro (.tup (its.map Item.d)),.no]=_
  refine z3b (z0j ?_ (z0j ?_ (z0j ?_ rfl))) (by simp[z1y])
  ·have e:z0i dStr (gCons (gV 0) gNil) [En.ro (.int P),.ro (namS false ns),.ro (.tup (its.map Item.d)),.no] = .ok (.str (numS P)):=z1r (z0j rfl rfl) es
   unfold gBin
   rw[e]
   show R.guard _ _=_
   have ln:=z5j h0 (show P<=10^30 by lia)
   have l6:("prime ":Str).length=6:=by decide +kernel
   rw[z0h (by lia),y8r]
  ·exact z9e (ws:="boxes"::ns) (y3w (ok3 _ (by simp[z1y])).2 (by simp only[List.length_cons];lia)) (z5p (ds:=(("boxes":Str)::ns).map D.str) (z4q (us:=["boxes"]) (z3b (ws:=["boxes"]) rfl (by simp)) (z7i rfl) (by simp only[List.length_cons,List.length_nil];lia)))
  ·exact z9e (ws:="do"::Item.wss ns its) (y3w (ok3 _ (by simp[z1y])).2 (by simp only[List.length_cons];lia)) (z5p (ds:=(("do":Str)::Item.wss ns its).map D.str) (z4q (us:=["do"]) (z3b (ws:=["do"]) rfl (by simp)) (z3q (z0j rfl (z0j rfl rfl)) ew) (by simp only[List.length_cons,List.length_nil];lia)))
 ·refine z2g ?_
  exact z9e (ws:=(z1y P ns its).map rowT) (y5k ok3 (by simp[z1y])) rfl
theorem y5l{sep x:Str}{g:G->R D}{Γ:G}{ws:List Str}(h:g Γ = .ok (.str x))(hx:x.length<=100000)(hs:(sep.length==0)=false)(e:Txt.split x sep=ws):y2t sep g Γ = .ok (ws.map D.str):=by
 unfold y2t
 rw[h,R.bind_ok]
 dsimp only
 rw[z0h ⟨hx,hs⟩,e]
theorem x1n{g:G->R Bool}{Γ:G}{b:Bool}(h:g Γ = .ok b):gNot g Γ = .ok (!b):=by unfold gNot;rw[h];rfl
theorem x4s{a b:G->R Bool}{Γ:G}{r:R Bool}(h:a Γ = .ok false)(h2:b Γ=r):gOr a b Γ=r:=by unfold gOr;rw[h];exact h2
theorem y0w{g:G->R D}{Γ:G}{b:Bool}(h:g Γ = .ok (.bl b)):gT g Γ = .ok b:=by unfold gT;rw[h];rfl
theorem z3j{φ:D->D->R D}{ga gb:G->R D}{Γ:G}{a b:D}{r:R D}(h1:ga Γ = .ok a)(h2:gb Γ = .ok b)(e:φ a b=r):gBin φ ga gb Γ=r:=by unfold gBin;rw[h1,h2];exact e
theorem y0y{first:Str}{ws:List Str}(hf:sOk first=true)(hp:∀w∈first::ws,z4r w)(hl:ws.length<=1000):c_e [.str (rowT (first::ws)),.str first] = .ok (ws.map D.str):=by
 refine y2x rfl ?_
 delta g_e
 have rl:=y1a hp
 simp only[List.length_cons] at rl
 refine z3w (ds:=(first::ws).map D.str) (y5l rfl (by lia) (by decide +kernel) (y6y hp (by simp))) ?_
 refine z1f (y0w (z3j (a:=.str first) (b:=.str first) (z3j (a:=.lst ((first::ws).map D.str)) (b:=.int 0) rfl rfl (by simp only[List.map_cons,dIx,z3x])) rfl ?_)) ?_
 ·rw[z9n hf hf,decide_eq_true rfl];rfl
 ·refine y6c ?_
  have e:cutL ((first::ws).map D.str) (some ((1:Nat):Int)) none=ws.map D.str:=by rw[z7c];rfl
  show y3d (.lst ((first::ws).map D.str)) (some ((1:Nat):Int)) none=_
  show R.guard _ _=_
  rw[e,z0h (z0v ws)]
theorem s_l{P:Int}(p1:3<=P)(p2:P<=9973)(hd:z2h P=false):c_l [.lst [.str (numS P)]] = .ok (.int P):=by
 have en:=s_f (show 0<=P by lia) (show P<=10^30 by lia)
 have ep:=s_G (d:=.int P) rfl
 have eb:y5r (.int P)=true:=by
  show(decide (3<=P)&&(decide (P<=9999)&&!z2h P))=true
  rw[decide_eq_true p1,decide_eq_true (show P<=9999 by lia),hd];rfl
 rw[eb] at ep
 refine z1g rfl ?_
 delta g_l
 refine z1f (by walk_at "evs";try rfl) ?_
 refine z1x (d:=.int P) (z3f (z1r (ds:=[.str (numS P)]) (z0j (z3j (a:=.lst [.str (numS P)]) (b:=.int 0) rfl rfl rfl) rfl) en) rfl) ?_
 refine z1f (x1n (y0w (z1r (ds:=[.int P]) (z0j rfl rfl) ep))) (z2g rfl)
theorem y7o:∀c:Nat,97<=c->c<=122->inS ⟨#[c]⟩ "abcdefghijklmnopqrstuvwxyz"=true:=by
 have key:∀i:Fin 26,inS ⟨#[97+i.val]⟩ "abcdefghijklmnopqrstuvwxyz"=true:=by decide +kernel
 intro c h1 h2
 have:=key ⟨c-97,by lia⟩
 rw[show 97+(c-97)=c by lia] at this
 exact this
theorem x8h{x:Str}(hx:sOk x=true)(h:x≠"set"/\x≠"again"):z7m (.str x) (.tup [.str "set",.str "again"]) = .ok (.bl true):=by
 have k1:sOk "set"=true:=by decide +kernel
 have k2:sOk "again"=true:=by decide +kernel
 show R.guard _ _=_
 rw[z0h ⟨by rw[z2m];exact hx,by rw[z9d];simp only[List.all_cons,List.all_nil,z2m,k1,k2,Bool.and_self]⟩]
 have e1:eqD (.str "set") (.str x)=false:=by rw[z5h];simpa using Ne.symm h.1
 have e2:eqD (.str "again") (.str x)=false:=by rw[z5h];simpa using Ne.symm h.2
 simp only[List.any_cons,List.any_nil,e1,e2,Bool.or_self,Bool.not_false]
theorem s_K{ns:List Str}(N:NamesF ns){x:Str}(hx:x∈ns):c_K [.str x] = .ok (.bl true):=by
 have w:=N.w1 x hx
 have em:=y1w (w:=x) (S:="abcdefghijklmnopqrstuvwxyz") (m:=8) w.1 (by lia) (by lia) fun c hc=>y7o c (N.lt x hx c hc).1 (N.lt x hx c hc).2
 refine z1g rfl ?_
 delta g_K
 refine z2g (x1l (z1r (ds:=[.str x,.str "abcdefghijklmnopqrstuvwxyz",.int 8]) rfl em) ?_)
 exact z3j (a:=.str x) (b:=.tup [.str "set",.str "again"]) rfl (by walk_at "evs") (x8h (N.ok x hx) (N.nk x hx))
theorem x4f:∀(xs acc:List Str),xs.Nodup->(∀x∈xs,x ∉ acc)->xs.foldl (fun l k=>if k∈l then l else k::l) acc=xs.reverse++acc
 | [],_,_,_=>rfl
 | x::r,acc,nd,h=>by
   obtain⟨n1,n2⟩:=List.nodup_cons.mp nd
   rw[List.foldl_cons,if_neg (h x (List.mem_cons_self ..)),x4f r (x::acc) n2 (fun y hy z=>by
    rcases List.mem_cons.mp z with rfl | z
    ·exact n1 hy
    ·exact h y (List.mem_cons_of_mem _ hy) z)]
   simp
theorem x6d{xs:List Str}(h:xs.Nodup):(metS xs).length=xs.length:=by
 unfold metS
 rw[x4f xs [] h (fun _ _ z=>nomatch z)];simp
theorem s_r{ns:List Str}(N:NamesF ns):c_r [.lst (ns.map D.str)] = .ok (namS false ns):=by
 have l1:=N.l1
 have l3:=N.l3
 refine z1g rfl ?_
 delta g_r
 have el:z0i dLen (gCons (gV 0) gNil) [En.ro (.lst (ns.map D.str))] = .ok (.int (ns.length:Int)):=by
  walk_at "evs"
  try rw[List.length_map]
 refine z1f (x4s (x1n (b:=true) ?_) (x4s (y0w (z3j (a:=.int (ns.length:Int)) (b:=.int 3) el rfl ?_)) (y0w (z3j (a:=.int ((metS ns).length:Int)) (b:=.int (ns.length:Int)) ?_ el ?_)))) ?_
 ·show z8a (gV 0) [En.ro (.lst (ns.map D.str))]=_
  simp only[z8a,gV,z2p,R.bind_ok]
  cases ns with
  | nil=>simp at l1
  | cons a r=>rfl
 ·have b:decide ((3:Int)<(ns.length:Int))=false:=decide_eq_false (by lia)
  simp only[dGt]
  rw[b]
 ·show y6f (gV 0) [En.ro (.lst (ns.map D.str))]=_
  unfold y6f
  rw[show gV 0 [En.ro (.lst (ns.map D.str))] = .ok (.lst (ns.map D.str)) from rfl,R.bind_ok]
  dsimp only
  rw[strs?_map]
  dsimp only
  rw[z0h (by lia)]
 ·rw[x6d N.nd]
  show dNe (.int (ns.length:Int)) (.int (ns.length:Int)) = .ok (.bl false)
  walk_at "evs"
  try simp
 ·have ec:z2q (z4g (gV 0)) (fElt (gNL (z0i (noEr c_K) (gCons (gV 0) gNil)))) [En.ro (.lst (ns.map D.str))] = .ok ((ns.map fun _=>true).map D.bl):=by
   unfold z2q
   rw[show z4g (gV 0) [En.ro (.lst (ns.map D.str))] = .ok (ns.map D.str) by
    simp only[z4g,gV,z2p,R.bind_ok,dSeq,z0h (z0v ns)]]
   show R.guard _ _=_
   rw[z0h (by rw[List.length_map];lia),List.map_map]
   refine z1u fun x hx=>?_
   have e:=s_K N hx
   show(gNL (z0i (noEr c_K) (gCons (gV 0) gNil)) (En.ro (.str x)::[En.ro (.lst (ns.map D.str))])>>=fun e=>R.ok (some e))=_
   rw[z3f (d:=.bl true) (z1r (ds:=[.str x]) rfl (by unfold noEr;rw[e])) rfl]
   rfl
  refine z1f (x1n (b:=true) (y0w (z1r (ds:=[.lst ((ns.map fun _=>true).map D.bl)]) (z0j (z5p ec) rfl) ?_))) ?_
  ·rw[z3z];simp
  ·refine z2g ?_
   show z0i z2v _ [En.ro (.lst (ns.map D.str))]=_
   have n1:=z0v ns
   walk_at "evs"
   try rfl
theorem s_s{P:Int}{ns:List Str}{its:List Item}(N:NamesF ns)(p1:3<=P)(p2:P<=9973)(hd:z2h P=false)(d3:Item.deeps its<=3)(hm:Item.manys its<=30)(ho:Item.oks P ns.length its):c_s [.int P,namS false ns,.lst ((Item.wss ns its).map D.str)] = .ok (.tup (its.map Item.d)):=by
 have l1:=N.l1
 have l3:=N.l3
 have wl:=Item.wss_len (P:=P) (ns:=ns) l3 _ its (Nat.le_refl _) ho
 have ei:=s_h N.toNames (show P<=9999 by lia) 12 its 0 [] (by lia) (by lia) (by lia) ho (.inl rfl) (by simp only[List.length_nil];lia)
 rw[List.append_nil] at ei
 obtain⟨r1,r2,r3,r4,r5⟩:=Item.raws0_keeps (P:=P) (many:=(ns.length:Int)) its ho
 have ep:=s_H (P:=P) (many:=(ns.length:Int)) (its:=Item.raws0 its) (l:=false) p1 p2 hd (by lia) (by lia) (by lia) (by lia) r3
 rw[r4,<-Raw.ds_map,r5,Item.ds_map] at ep
 refine z1g rfl ?_
 delta g_s
 refine z3w (ds:=((Item.wss ns its).map D.str).reverse) ?_ ?_
 ·show z6y (gV 2) [En.ro (.int P),.ro (namS false ns),.ro (.lst ((Item.wss ns its).map D.str)),.no,.no]=_
  simp only[z6y,gV,z2p,z1b,R.bind_ok]
  rw[z0h ⟨by rw[List.length_map];lia,z0v _⟩]
 ·refine y0d (y7k (d:=.tup (its.map Item.d)) (ws:=([]:List D).reverse) (z4e (ds:=[.int P,namD ns,.lst ((Item.wss ns its).map D.str).reverse,.int ((0:Nat):Int)]) ?_ ei)) ?_
  ·show gCons _ _ [En.ro (.int P),.ro (namS false ns),.ro (.lst ((Item.wss ns its).map D.str)),.own ((Item.wss ns its).map D.str).reverse,.no]=_
   exact z0j rfl (z0j rfl (by walk_at "evs";try rfl))
  ·show gSt _ _ [En.ro (.int P),.ro (namS false ns),.ro (.lst ((Item.wss ns its).map D.str)),.own [],.ro (.tup (its.map Item.d))]=_
   refine z1f rfl ?_
   have e:gRet (z0i c_H (gCons (gV 0) (gCons (z0i dLen (gCons (gV 1) gNil)) (gCons (gV 4) gNil)))) [En.ro (.int P),.ro (namS false ns),.ro (.lst ((Item.wss ns its).map D.str)),.own [],.ro (.tup (its.map Item.d))] = .ok (.rt (.tup (its.map Item.d))):=by
    refine z2g (z1r (ds:=[.int P,.int (ns.length:Int),.tup (its.map Item.d)]) (z0j rfl (z0j ?_ (z0j rfl rfl))) ep)
    refine z1r (ds:=[namS false ns]) (z0j rfl rfl) ?_
    show dLen [.tup (ns.map D.str)]=_
    simp only[dLen,List.length_map]
   unfold gNoX
   rw[e]
theorem s_O{P:Int}{ns:List Str}{its:List Item}(N:NamesF ns)(p1:3<=P)(p2:P<=9973)(hd:z2h P=false)(d3:Item.deeps its<=3)(hm:Item.manys its<=30)(ho:Item.oks P ns.length its):c_O [.str (z6j (z1y P ns its))] = .ok (.tup [.int P,namS false ns,.tup (its.map Item.d)]):=by
 have l3:=N.l3
 have ok3:=z8g N (show 0<=P by lia) (show P<=9999 by lia) (show Item.manys its<=60 by lia) ho
 have wl:=Item.wss_len (P:=P) (ns:=ns) l3 _ its (Nat.le_refl _) ho
 have tl:=y8f ok3 (by simp[z1y])
 have o1:=(ok3 ["prime",numS P] (by simp[z1y])).2
 have o2:=(ok3 ("boxes"::ns) (by simp[z1y])).2
 have o3:=(ok3 ("do"::Item.wss ns its) (by simp[z1y])).2
 have b1:=y0y (first:="prime") (ws:=[numS P]) (by decide +kernel) o1 (by simp)
 have b2:=y0y (first:="boxes") (ws:=ns) (by decide +kernel) o2 (by lia)
 have b3:=y0y (first:="do") (ws:=Item.wss ns its) (by decide +kernel) o3 (by lia)
 have e1:=s_l p1 p2 hd
 have e2:=s_r N
 have e3:=s_s N p1 p2 hd d3 hm ho
 have nI:=z9a its
 have nN:(namS false ns).noL=true:=by
  show(D.tup (ns.map D.str)).noL=true
  simp[D.noL,z0v]
 refine z1g rfl ?_
 delta g_O
 have rw3:(z1y P ns its).map rowT=[rowT ["prime",numS P],rowT ("boxes"::ns),rowT ("do"::Item.wss ns its)]:=rfl
 refine z3w (ds:=((z1y P ns its).map rowT).map D.str) (y5l rfl (by lia) (by decide +kernel) (y3u ok3 (by simp[z1y]))) ?_
 rw[rw3]
 generalize rowT ["prime",numS P]=t1 at *
 generalize rowT ("boxes"::ns)=t2 at *
 generalize rowT ("do"::Item.wss ns its)=t3 at *
 show gSt _ _ [En.ro (.str (z6j (z1y P ns its))),.own [.str t1,.str t2,.str t3],.no,.no]=_
 refine z1f (by walk_at "evs";try rfl) ?_
 refine z1x (d:=.int P) (z3f (z1r (ds:=[.lst (([numS P]:List Str).map D.str)]) (z0j (z5p (z3q (ds:=[.str t1,.str "prime"]) (z0j (z3j (a:=.lst [.str t1,.str t2,.str t3]) (b:=.int 0) rfl rfl (by simp only[dIx,z3x])) rfl) b1)) rfl) e1) rfl) ?_
 refine z1x (d:=namS false ns) (z3f (z1r (ds:=[.lst (ns.map D.str)]) (z0j (z5p (z3q (ds:=[.str t2,.str "boxes"]) (z0j (z3j (a:=.lst [.str t1,.str t2,.str t3]) (b:=.int 1) rfl rfl (by simp only[dIx,z5o])) rfl) b2)) rfl) e2) nN) ?_
 refine z2g ?_
 show gTup _ [En.ro (.str (z6j (z1y P ns its))),.own [.str t1,.str t2,.str t3],.ro (.int P),.ro (namS false ns)]=_
 have q:z0i c_s (gCons (gV 2) (gCons (gV 3) (gCons (gL (z1v c_e (gCons (gBin dIx (gV 1) (gC (.int 2))) (gCons (gC (.str "do")) gNil)))) gNil))) [En.ro (.str (z6j (z1y P ns its))),.own [.str t1,.str t2,.str t3],.ro (.int P),.ro (namS false ns)] = .ok (.tup (its.map Item.d)) :=
  z1r (ds:=[.int P,namS false ns,.lst ((Item.wss ns its).map D.str)]) (z0j rfl (z0j rfl (z0j (z5p (z3q (ds:=[.str t3,.str "do"]) (z0j (z3j (a:=.lst [.str t1,.str t2,.str t3]) (b:=.int 2) rfl rfl (by simp only[dIx,z5n])) rfl) b3)) rfl))) e3
 unfold gTup
 rw[z0j (d:=.int P) rfl (z0j (d:=namS false ns) rfl (z0j q rfl))]
 rw[R.bind_ok,z0h (by simp)]
noncomputable def PlD:Nat->D->Prop
 | _,.str x=>sOk x=true
 | _,.int _=>True
 | k+1,.tup ds=>ds.length<=1000/\∀d∈ds,PlD k d
 | _,_=>False
theorem y8w:∀(k:Nat) (d:D),PlD k d->d.noL=true:=by
 intro k
 induction k with
 | zero=>intro d h;cases d<;>first | rfl | exact h.elim
 | succ k ih =>
   intro d h
   cases d with
   | tup ds =>
     have:D.noLs ds=true:=y4p fun d hd=>ih d (h.2 d hd)
     simpa [D.noL] using this
   | str x=>rfl
   | int i=>rfl
   | _=>exact h.elim
theorem x5k:∀(k:Nat) (d:D),PlD k d->D.lay k d=true:=by
 intro k
 induction k with
 | zero =>
   intro d h
   cases d with
   | str x=>rw[z2m];exact h
   | int i=>exact z5c _ _
   | _=>exact h.elim
 | succ k ih =>
   intro d h
   cases d with
   | tup ds=>rw[z9d,List.all_eq_true];exact fun d hd=>ih d (h.2 d hd)
   | str x=>rw[z2m];exact h
   | int i=>exact z5c _ _
   | _=>exact h.elim
theorem x7p:∀(k:Nat) (d:D),PlD k d->D.pl d=true:=by
 intro k
 induction k with
 | zero=>intro d h;cases d<;>first | (simp[D.pl];done) | exact h.elim
 | succ k ih =>
   intro d h
   cases d with
   | tup ds=>rw[x3w,List.all_eq_true];exact fun d hd=>ih d (h.2 d hd)
   | str x=>simp[D.pl]
   | int i=>exact x3y _
   | _=>exact h.elim
theorem x1s(i:Int):c_n [.int i] = .ok (.bl true):=by
 refine z1g rfl ?_
 delta g_n
 refine z2g ?_
 walk_at "evs"
 try rfl
theorem x4y:∀(k:Nat) (d:D),PlD k d->c_p (k+1) [d] = .ok (.bl true):=by
 intro k
 have base:∀(φ:List D->R D) (d:D),(∃x,d = .str x)∨(∃i,d = .int i)->fnC 1 1 (g_p φ) [d] = .ok (.bl true):=by
  intro φ d h
  refine z1g rfl ?_
  delta g_p
  rcases h with ⟨x,rfl⟩ | ⟨i,rfl⟩
  ·refine z1f (by walk_at "evs";try rfl) (z2g ?_)
   walk_at "evs"
   try rfl
  ·have e:=x1s i
   refine z1f (by walk_at "evs";try rfl) (z2g ?_)
   walk_at "evs"
   try simp only[e]
   try walk_at "evs"
   try rfl
 induction k with
 | zero =>
   intro d h
   cases d with
   | str x=>exact base _ _ (.inl ⟨x,rfl⟩)
   | int i=>exact base _ _ (.inr ⟨i,rfl⟩)
   | _=>exact h.elim
 | succ k ih =>
   intro d h
   cases d with
   | str x=>exact base _ _ (.inl ⟨x,rfl⟩)
   | int i=>exact base _ _ (.inr ⟨i,rfl⟩)
   | tup ds =>
     show fnC 1 1 (g_p (c_p (k+1))) _=_
     refine z1g rfl ?_
     delta g_p
     have ec:z2q (z4g (gV 0)) (fElt (gNL (z0i (noEr (c_p (k+1))) (gCons (gV 0) gNil)))) [En.ro (.tup ds)] = .ok ((ds.map fun _=>true).map D.bl):=by
      unfold z2q
      have nl:D.noLs ds=true:=y4p fun d hd=>y8w k d (h.2 d hd)
      rw[show z4g (gV 0) [En.ro (.tup ds)] = .ok ds by
       simp only[z4g,gV,z2p,R.bind_ok,dSeq,z0h nl]]
      show R.guard _ _=_
      rw[z0h (by have:=h.1;lia),List.map_map]
      have:=z1u (f:=fun d=>fElt (gNL (z0i (noEr (c_p (k+1))) (gCons (gV 0) gNil))) d [En.ro (.tup ds)]) (k:=fun d:D=>d) (h:=fun _=>D.bl true) (l:=ds) fun d hd=>by
       have e:=ih d (h.2 d hd)
       show(gNL (z0i (noEr (c_p (k+1))) (gCons (gV 0) gNil)) (En.ro d::[En.ro (.tup ds)])>>=fun e=>R.ok (some e))=_
       rw[z3f (d:=.bl true) (z1r (ds:=[d]) rfl (by unfold noEr;rw[e])) rfl]
       rfl
      rw[List.map_id'] at this
      exact this
     refine x3j (y2o (by walk_at "evs";try rfl) (z2g (z1r (ds:=[.lst ((ds.map fun _=>true).map D.bl)]) (z0j (z5p ec) rfl) ?_)))
     rw[z3z];simp
   | _=>exact h.elim
theorem x5j(f:List Int)(hl:f.length<=1000)(n:Nat):PlD (n+1) (rowD f):=⟨by rw[List.length_map];exact hl,fun d hd=>by
 obtain⟨v,_,rfl⟩:=List.mem_map.mp hd
 cases n<;>exact trivial⟩
mutual
theorem Item.pld{P many:Int}(m3:many<=3):∀(a:Item) (n:Nat),a.ok P many->a.many<=60->2*a.deep+2<=n->PlD n a.d
 | .set x f,n,ho,hm,h=>by
   obtain⟨n,rfl⟩:∃k,n=k+2:=⟨n-2,by simp only[Item.deep] at h;lia⟩
   simp only[Item.ok] at ho
   refine⟨by simp,fun d hd=>?_⟩
   simp only[List.mem_cons,List.not_mem_nil,or_false] at hd
   rcases hd with rfl | rfl | rfl
   ·exact(by decide +kernel:sOk "set"=true)
   ·exact trivial
   ·exact x5j f (by have:=ho.2.2.1;lia) n
 | .again c i,n,ho,hm,h=>by
   simp only[Item.deep] at h
   simp only[Item.many] at hm
   simp only[Item.ok] at ho
   obtain⟨n,rfl⟩:∃k,n=k+2:=⟨n-2,by lia⟩
   refine⟨by simp,fun d hd=>?_⟩
   simp only[List.mem_cons,List.not_mem_nil,or_false] at hd
   rcases hd with rfl | rfl | rfl
   ·exact(by decide +kernel:sOk "again"=true)
   ·exact trivial
   ·exact⟨by rw[Item.ds_map,List.length_map];have:=Item.manys_length i;lia,Item.plds m3 i n ho.2.2 (by lia) (by lia)⟩
theorem Item.plds{P many:Int}(m3:many<=3):∀(its:List Item) (n:Nat),Item.oks P many its->Item.manys its<=60->2*Item.deeps its+2<=n->∀d∈Item.ds its,PlD n d
 | [],_,_,_,_,d,hd=>by simp[Item.ds] at hd
 | a::r,n,ho,hm,h,d,hd=>by
   simp only[Item.deeps] at h
   simp only[Item.manys] at hm
   simp only[Item.oks] at ho
   simp only[Item.ds,List.mem_cons] at hd
   rcases hd with rfl | hd
   ·exact Item.pld m3 a n ho.1 (by lia) (by lia)
   ·exact Item.plds m3 r n ho.2 (by lia) (by lia) d hd
end
noncomputable def numN(c m:Int)(s k p:Nat):Int:=(c/64*(2*(p:Int)+1)+m/26*(p:Int)+7*(p:Int)*(p:Int))+(if (p:Int)=c/8%(s:Int) then (1+2*(m%6))*(k:Int) else 0)
noncomputable def let1(v:Int):Nat:=97+(v%26).toNat
noncomputable def z2o(c m:Int)(s k j:Nat):Str:=⟨((List.range j).map fun p=>let1 (numN c m s k p)).toArray⟩
noncomputable def fixW(w:Str):Str:=if w="set"∨w="again" then w++"x" else w
theorem y7l(v:Int):97<=let1 v/\let1 v<=122:=by unfold let1;lia
theorem y9y(v:Int):dIxS (.str "abcdefghijklmnopqrstuvwxyz") (.int (v%26)) = .ok (.str ⟨#[let1 v]⟩):=by
 have key:∀i:Fin 26,atI ("abcdefghijklmnopqrstuvwxyz":Str).cps.toList (i.val:Int)=some (97+i.val):=by decide +kernel
 have hv:v%26=(((v%26).toNat:Nat):Int):=by lia
 have e:=key ⟨(v%26).toNat,by lia⟩
 show R.guard _ _=_
 rw[z0h (by decide +kernel),hv,e]
 rfl
theorem y6p(c m:Int)(s k j:Nat):z2o c m s k (j+1)=z2o c m s k j++⟨#[let1 (numN c m s k j)]⟩:=by
 refine Str.ext' ?_
 rw[Str.cps_append]
 unfold z2o
 simp[List.range_succ]
theorem z4y(c m:Int)(s k j:Nat):(z2o c m s k j).length=j:=by simp[z2o,Str.length]
theorem y0s(c m:Int)(s k j:Nat):∀x∈(z2o c m s k j).cps.toList,97<=x/\x<=122:=by
 intro x hx
 simp only[z2o,List.mem_map] at hx
 obtain⟨p,_,rfl⟩:=hx
 exact y7l _
theorem x3t{w:Str}(h:∀x∈w.cps.toList,97<=x/\x<=122):sOk w=true:=by
 unfold sOk
 rw[<-Array.all_toList,List.all_eq_true]
 intro c hc
 have:=h c hc
 simpa using (show c<0x110000 by lia)
theorem z8o{lo:Int}{n j:Nat}{d:D}(h:(z3e lo n)[j]? = some d):j<n/\d = .int (lo+(j:Int)):=by
 by_cases q:j<n
 ·rw[z7f lo n j q] at h;cases h;exact⟨q,rfl⟩
 ·have:(z3e lo n)[j]? = none:=List.getElem?_eq_none (by rw[z0t];lia)
  rw[this] at h;cases h
theorem w0d{w:Str}(hw:sOk w=true):dIn (.str w) (.tup [.str "set",.str "again"]) = .ok (.bl (decide (w="set"∨w="again"))):=by
 have k1:sOk "set"=true:=by decide +kernel
 have k2:sOk "again"=true:=by decide +kernel
 show R.guard _ _=_
 rw[z0h ⟨by rw[z2m];exact hw,by rw[z9d];simp only[List.all_cons,List.all_nil,z2m,k1,k2,Bool.and_self]⟩]
 have e1:eqD (.str "set") (.str w)=decide (w="set"):=by
  rw[z5h]
  by_cases q:w="set"
  ·rw[q];simp
  ·rw[decide_eq_false q];simpa using Ne.symm q
 have e2:eqD (.str "again") (.str w)=decide (w="again"):=by
  rw[z5h]
  by_cases q:w="again"
  ·rw[q];simp
  ·rw[decide_eq_false q];simpa using Ne.symm q
 simp only[List.any_cons,List.any_nil,e1,e2,Bool.or_false,Bool.decide_or]
theorem x2x{w v:Str}(hl:w.length=v.length)(h:fixW w=fixW v):w=v:=by
 unfold fixW at h
 have lx:("x":Str).length=1:=by decide +kernel
 by_cases q:w="set"∨w="again"
 ·by_cases r:v="set"∨v="again"
  ·rcases q with rfl | rfl<;>rcases r with rfl | rfl<;>first | rfl | exact absurd hl (by decide +kernel)
  ·rw[if_pos q,if_neg r] at h
   have:=congrArg Str.length h
   rw[Str.length_append] at this
   lia
 ·by_cases r:v="set"∨v="again"
  ·rw[if_neg q,if_pos r] at h
   have:=congrArg Str.length h
   rw[Str.length_append] at this
   lia
  ·rw[if_neg q,if_neg r] at h
   exact h
theorem x4r{c m:Int}{s k l:Nat}(s1:1<=s)(hk:k<l)(hl:l<3):z2o c m s k s≠z2o c m s l s:=fun h=>by
 obtain⟨q,hq⟩:∃q:Nat,c/8%(s:Int)=(q:Int):=⟨(c/8%(s:Int)).toNat,by have:=Int.emod_nonneg (c/8) (show(s:Int)≠0 by lia);lia⟩
 have hqs:q<s:=by have:=Int.emod_lt_of_pos (c/8) (show(0:Int)<(s:Int) by lia);lia
 have e:=congrArg (fun w:Str=>w.cps.toList[q]?) h
 simp only[z2o,List.getElem?_map,List.getElem?_range hqs,Option.map_some,Option.some.injEq,let1,numN,hq,if_true] at e
 have hk3:k=0∨k=1:=by lia
 have hl3:l=1∨l=2:=by lia
 generalize c/64*(2*(q:Int)+1)+m/26*(q:Int)+7*(q:Int)*(q:Int)=b at e
 rcases hk3 with rfl | rfl<;>rcases hl3 with rfl | rfl<;>(push_cast at e;lia)
noncomputable def z1o(c m:Int)(s n:Nat):List Str:=(List.range n).map fun k=>fixW (z2o c m s k s)
theorem y9s{c m:Int}{s n:Nat}(s1:1<=s)(s8:s<=8)(n1:1<=n)(n3:n<=3):NamesF (z1o c m s n):=by
 have lx:("x":Str).length=1:=by decide +kernel
 have lt:∀x∈z1o c m s n,∀z∈x.cps.toList,97<=z/\z<=122:=by
  intro x hx z hz
  obtain⟨k,_,rfl⟩:=List.mem_map.mp hx
  unfold fixW at hz
  split at hz
  ·rw[Str.cps_append,Array.toList_append] at hz
   rcases List.mem_append.mp hz with hz | hz
   ·exact y0s c m s k s z hz
   ·have:("x":Str).cps.toList=[120]:=by decide +kernel
    rw[this] at hz
    simp at hz
    lia
  ·exact y0s c m s k s z hz
 refine⟨⟨?_,fun x hx=>x3t (lt x hx),by simp[z1o];exact n1,by simp[z1o];exact n3⟩,fun x hx=>?_,lt,fun x hx=>?_⟩
 ·have ne:∀k l,k<l->l<3->fixW (z2o c m s k s)≠fixW (z2o c m s l s):=fun k l h1 h2 z=>x4r s1 h1 h2 (x2x (by rw[z4y,z4y]) z)
  have q1:=ne 0 1 (by lia) (by lia)
  have q2:=ne 0 2 (by lia) (by lia)
  have q3:=ne 1 2 (by lia) (by lia)
  have:n=1∨n=2∨n=3:=by lia
  rcases this with rfl | rfl | rfl
  ·simp[z1o,List.range_succ]
  ·simp[z1o,List.range_succ,q1]
  ·simp[z1o,List.range_succ,q1,q2,q3]
 ·obtain⟨k,_,rfl⟩:=List.mem_map.mp hx
  have wl:=z4y c m s k s
  unfold fixW
  split
  ·rename_i h
   rw[Str.length_append,lx]
   rcases h with h | h
   ·rw[h];exact⟨by decide +kernel,by decide +kernel⟩
   ·rw[h];exact⟨by decide +kernel,by decide +kernel⟩
  ·lia
 ·obtain⟨k,_,rfl⟩:=List.mem_map.mp hx
  unfold fixW
  split
  ·rename_i h
   rcases h with h | h
   ·rw[h];exact⟨by decide +kernel,by decide +kernel⟩
   ·rw[h];exact⟨by decide +kernel,by decide +kernel⟩
  ·rename_i h
   exact⟨fun z=>h (.inl z),fun z=>h (.inr z)⟩
noncomputable abbrev LET:Str:="abcdefghijklmnopqrstuvwxyz"
theorem x1u{c m:Int}{n:Nat}(n1:1<=n)(n3:n<=3):∃ns:List Str,NamesF ns/\ns.length=n/\c_i [.int c,.int m,.int n] = .ok (namS false ns):=by
 obtain⟨s,hs⟩:∃s:Nat,1+c%8=(s:Int):=⟨(1+c%8).toNat,by lia⟩
 have s1:1<=s:=by lia
 have s8:s<=8:=by lia
 refine⟨z1o c m s n,y9s s1 s8 n1 n3,by simp[z1o],?_⟩
 refine z1g rfl ?_
 delta g_i
 refine z1x (d:=.str LET) (z3f rfl rfl) ?_
 refine z1x (d:=.int (s:Int)) (by
  walk_at "evs"
  rw[hs]
  try walk_at "evs") ?_
 refine z3w (ds:=([]:List Str).map D.str) (z3b (ws:=[]) rfl (by simp)) ?_
 show gSt _ _ [En.ro (.int c),.ro (.int m),.ro (.int n),.ro (.str LET),.ro (.int s),.own ((z1o c m s 0).map D.str),.no,.no,.no,.no]=_
 refine z9v (ds:=z3e 0 n) (fun k Γ=>∃(x6 x7 x8 x9:En),Γ=[.ro (.int c),.ro (.int m),.ro (.int n),.ro (.str LET),.ro (.int s),.own ((z1o c m s k).map D.str),x6,x7,x8,x9]) (by walk_at "evs";try rfl) ⟨_,_,_,_,rfl⟩ ?_ ?_
 ·rintro k d Γ hd ⟨x6,x7,x8,x9,rfl⟩
  obtain⟨hk,rfl⟩:=z8o hd
  rw[Int.zero_add]
  show Ends (gSt _ _ [En.ro (.int c),.ro (.int m),.ro (.int n),.ro (.str LET),.ro (.int s),.own ((z1o c m s k).map D.str),.ro (.int (k:Int)),x7,x8,x9]) _
  rw[z1x (d:=.str "") (z3f rfl rfl) rfl]
  refine x1f (fun r=>Ends r _) (fun j Γ=>∃(x8 x9:En),Γ=[.ro (.int c),.ro (.int m),.ro (.int n),.ro (.str LET),.ro (.int s),.own ((z1o c m s k).map D.str),.ro (.int (k:Int)),.ro (.str (z2o c m s k j)),x8,x9]) (ds:=z3e 0 s) (by walk_at "evs";try rfl) ⟨_,_,rfl⟩ ?_ ?_
  ·rintro j d Γ hd ⟨x8,x9,rfl⟩
   obtain⟨hj,rfl⟩:=z8o hd
   rw[Int.zero_add]
   show Ends (gSt _ _ [En.ro (.int c),.ro (.int m),.ro (.int n),.ro (.str LET),.ro (.int s),.own ((z1o c m s k).map D.str),.ro (.int (k:Int)),.ro (.str (z2o c m s k j)),.ro (.int (j:Int)),x9]) _
   rw[z1x (d:=.int (c/64*(2*(j:Int)+1)+m/26*(j:Int)+7*(j:Int)*(j:Int))) (by walk_at "evs") rfl]
   show Ends (gSt _ _ [En.ro (.int c),.ro (.int m),.ro (.int n),.ro (.str LET),.ro (.int s),.own ((z1o c m s k).map D.str),.ro (.int (k:Int)),.ro (.str (z2o c m s k j)),.ro (.int (j:Int)),.ro (.int (c/64*(2*(j:Int)+1)+m/26*(j:Int)+7*(j:Int)*(j:Int)))]) _
   have last:∀v:Int,v=numN c m s k j->Ends (gSet 7 (gNL (gBin y5c (gV 7) (gBin dIxS (gV 3) (gBin dMod (gV 9) (gC (.int 26)))))) [En.ro (.int c),.ro (.int m),.ro (.int n),.ro (.str LET),.ro (.int s),.own ((z1o c m s k).map D.str),.ro (.int (k:Int)),.ro (.str (z2o c m s k j)),.ro (.int (j:Int)),.ro (.int v)]) (fun Γ=>∃(x8 x9:En),Γ=[.ro (.int c),.ro (.int m),.ro (.int n),.ro (.str LET),.ro (.int s),.own ((z1o c m s k).map D.str),.ro (.int (k:Int)),.ro (.str (z2o c m s k (j+1))),x8,x9]):=by
    intro v hv
    refine .nx (y2n (d:=.str (z2o c m s k (j+1))) (z3f (z3j (a:=.str (z2o c m s k j)) (b:=.str ⟨#[let1 v]⟩) rfl (z3j (a:=.str LET) (b:=.int (v%26)) rfl (by walk_at "evs") (y9y v)) ?_) rfl)) ⟨_,_,rfl⟩
    show R.guard _ _=_
    rw[z0h (by rw[z4y];show j+1<=100000;lia),y6p,hv]
   by_cases q:(j:Int)=c/8%(s:Int)
   ·have bq:((j:Int)==c/8%(s:Int))=true:=by simpa using q
    have cond:gT (gBin dEq (gV 8) (gBin dMod (gBin dDiv (gV 0) (gC (.int 8))) (gV 4))) [En.ro (.int c),.ro (.int m),.ro (.int n),.ro (.str LET),.ro (.int s),.own ((z1o c m s k).map D.str),.ro (.int (k:Int)),.ro (.str (z2o c m s k j)),.ro (.int (j:Int)),.ro (.int (c/64*(2*(j:Int)+1)+m/26*(j:Int)+7*(j:Int)*(j:Int)))] = .ok true:=by
     walk_at "evs"
     rw[bq]
    rw[x1e cond (y2n (d:=.int ((c/64*(2*(j:Int)+1)+m/26*(j:Int)+7*(j:Int)*(j:Int))+(1+2*(m%6))*(k:Int))) (by walk_at "evs")) rfl]
    exact last _ (by unfold numN;rw[if_pos q])
   ·have bq:((j:Int)==c/8%(s:Int))=false:=by simpa using q
    have cond:gT (gBin dEq (gV 8) (gBin dMod (gBin dDiv (gV 0) (gC (.int 8))) (gV 4))) [En.ro (.int c),.ro (.int m),.ro (.int n),.ro (.str LET),.ro (.int s),.own ((z1o c m s k).map D.str),.ro (.int (k:Int)),.ro (.str (z2o c m s k j)),.ro (.int (j:Int)),.ro (.int (c/64*(2*(j:Int)+1)+m/26*(j:Int)+7*(j:Int)*(j:Int)))] = .ok false:=by
     walk_at "evs"
     rw[bq]
    rw[z1f cond rfl]
    exact last _ (by unfold numN;rw[if_neg q,Int.add_zero])
  ·rintro Γ ⟨x8,x9,rfl⟩
   rw[z0t]
   have wl:=z4y c m s k s
   have wk:=x3t (y0s c m s k s)
   have en:(z1o c m s (k+1)).map D.str=(z1o c m s k).map D.str++[.str (fixW (z2o c m s k s))]:=by simp[z1o,List.range_succ]
   have nl:((z1o c m s k).map D.str).length<=100000:=by simp[z1o];lia
   have fin:∀w x8 x9,w=fixW (z2o c m s k s)->Ends (gApp 5 (gNL (gV 7)) [En.ro (.int c),.ro (.int m),.ro (.int n),.ro (.str LET),.ro (.int s),.own ((z1o c m s k).map D.str),.ro (.int (k:Int)),.ro (.str w),x8,x9]) (fun Γ=>∃(x6 x7 x8 x9:En),Γ=[.ro (.int c),.ro (.int m),.ro (.int n),.ro (.str LET),.ro (.int s),.own ((z1o c m s (k+1)).map D.str),x6,x7,x8,x9]):=by
    intro w x8 x9 hw
    refine .nx (w0c rfl (d:=.str w) (z3f rfl rfl) nl) ⟨.ro (.int (k:Int)),.ro (.str w),x8,x9,?_⟩
    rw[en,hw]
    rfl
   have ci:=w0d wk
   by_cases q:z2o c m s k s="set"∨z2o c m s k s="again"
   ·rw[decide_eq_true q] at ci
    rw[x1e (y0w (z3j (a:=.str (z2o c m s k s)) (b:=.tup [.str "set",.str "again"]) rfl (by walk_at "evs") ci)) (y2n (d:=.str (z2o c m s k s++"x")) (z3f (z3j (a:=.str (z2o c m s k s)) (b:=.str "x") rfl rfl ?_) rfl)) rfl]
    ·exact fin _ _ _ (by unfold fixW;rw[if_pos q])
    ·show R.guard _ _=_
     have l1:("x":Str).length=1:=by decide +kernel
     rw[z0h (by lia)]
   ·rw[decide_eq_false q] at ci
    rw[z1f (y0w (z3j (a:=.str (z2o c m s k s)) (b:=.tup [.str "set",.str "again"]) rfl (by walk_at "evs") ci)) rfl]
    exact fin _ _ _ (by unfold fixW;rw[if_neg q])
 ·rintro Γ ⟨x6,x7,x8,x9,rfl⟩
  rw[z0t]
  refine z2g ?_
  show z0i z2v _ _=_
  have n1:=z0v (z1o c m s n)
  walk_at "evs"
  try rfl
theorem x7o:∀{k n:Nat} {d:D},k<=n->PlD k d->PlD n d:=by
 intro k
 induction k with
 | zero =>
   intro n d _ h
   cases d with
   | str x=>cases n<;>exact h
   | int i=>cases n<;>exact trivial
   | _=>exact h.elim
 | succ k ih =>
   intro n d hn h
   obtain⟨n,rfl⟩:∃m,n=m+1:=⟨n-1,by lia⟩
   cases d with
   | str x=>exact h
   | int i=>exact trivial
   | tup ds=>exact⟨h.1,fun d hd=>ih (by lia) (h.2 d hd)⟩
   | _=>exact h.elim
theorem y0r{P:Int}{ns:List Str}(N:NamesF ns)(hP:P<=9999):∀(k:Nat) (its:List Item),Item.manys its<=k->Item.oks P ns.length its->∀w∈Item.wss ns its,sOk w=true
 | _,[],_,_,w,hw=>by simp[Item.wss] at hw
 | 0,a::r,h,_,_,_=>by have:=a.many_pos;simp only[Item.manys] at h;lia
 | k+1,.set x f::r,h,ho,w,hw=>by
   simp only[Item.oks,Item.ok] at ho
   simp only[Item.manys,Item.many] at h
   simp only[Item.wss,Item.ws,List.cons_append,List.mem_cons,List.mem_append] at hw
   rcases hw with rfl | rfl | hw | hw
   ·decide +kernel
   ·exact N.ok _ (y0i (by lia))
   ·obtain⟨v,hv,rfl⟩:=List.mem_map.mp hw
    exact y0z (ho.1.2.2.2 v hv).1
   ·exact y0r N hP k r (by lia) ho.2 w hw
 | k+1,.again n i::r,h,ho,w,hw=>by
   simp only[Item.oks,Item.ok] at ho
   simp only[Item.manys,Item.many] at h
   simp only[Item.wss,Item.ws,List.cons_append,List.mem_cons,List.mem_append,List.append_assoc,List.not_mem_nil,or_false,false_or] at hw
   rcases hw with rfl | rfl | rfl | hw | rfl | hw
   ·decide +kernel
   ·exact y0z ho.1.1
   ·decide +kernel
   ·exact y0r N hP k i (by lia) ho.1.2.2 w hw
   ·decide +kernel
   ·exact y0r N hP k r (by lia) ho.2 w hw
theorem x1w{P:Int}{ns:List Str}{its:List Item}(N:NamesF ns)(h0:0<=P)(hP:P<=9999)(ho:Item.oks P ns.length its):∀ws∈z1y P ns its,∀w∈ws,sOk w=true:=by
 intro ws hw w hx
 simp only[z1y,List.mem_cons,List.not_mem_nil,or_false] at hw
 rcases hw with rfl | rfl | rfl
 ·simp only[List.mem_cons,List.not_mem_nil,or_false] at hx
  rcases hx with rfl | rfl
  ·decide +kernel
  ·exact y0z h0
 ·rcases List.mem_cons.mp hx with rfl | hx
  ·decide +kernel
  ·exact N.ok _ hx
 ·rcases List.mem_cons.mp hx with rfl | hx
  ·decide +kernel
  ·exact y0r N hP _ its (Nat.le_refl _) ho w hx
noncomputable section
noncomputable def x6t:G->R Fl :=
 (gSt (gSet 1 (gNL (z0i c_t (gCons (z0i c_z (gCons (gV 0) (gCons (gC (.int 0)) gNil))) gNil))))
 (gSt (gSet 2 (gNL (gBin dAdd (gC (.int 1)) (gBin dMod (z0i c_z (gCons (gV 0) (gCons (gC (.int 1)) gNil))) (gC (.int 3))))))
 (gSt (gSet 3 (gNL (z0i c_i (gCons (z0i c_z (gCons (gV 0) (gCons (gC (.int 2)) gNil))) (gCons (z0i c_z (gCons (gV 0) (gCons (gC (.int 3)) gNil))) (gCons (gV 2) gNil))))))
 (gSt (gSet 4 (gNL (z0i c_m (gCons (gSl (gV 0) (gOS (gC (.int 5))) (gOS (gC (.int 61)))) (gCons (gV 1) (gCons (gV 2) (gCons (gC (.int 28)) gNil)))))))
 (gSt (gSet 5 (gNL (z0i c_A (gCons (gV 1) (gCons (gV 3) (gCons (gV 4) gNil))))))
 (gSt (gFor 6 (gSeq (gL (y0a (gCons (gVr 3) (gCons (gL (z4v (gV 3))) gNil)))))
 (gSt (gSet 7 (gNL (z0i c_N (gCons (gV 1) (gCons (gV 6) (gCons (gV 4) gNil))))))
 (gIfS (gOr (gNot (gT (gIsi z5x (gV 7)))) (gT (gBin dNe (gV 7) (gV 5)))) (gRet (gC (.bl false))) z1q)))
 (gSt (gSet 7 (gNL (z0i c_O (gCons (gV 5) gNil))))
 (gRet (z4w (z0i (c_p 12) (gCons (gV 7) gNil)) (gBin dEq (gV 7) (gTup (gCons (gV 1) (gCons (gV 3) (gCons (gV 4) gNil))))))))))))))
noncomputable def c_law:List D->R D:=fnC 1 8 x6t
end
theorem law_k81:x9z c_law:=by
 intro ns hn
 obtain⟨P,eP,p1,p2,hP⟩:=s_M (z7n ns 0)
 obtain⟨m,em,m1,m3⟩:=x2l (z7n ns 1)
 obtain⟨nm,N,nl,en⟩:=x1u (c:=z7n ns 2) (m:=z7n ns 3) (n:=m) (by lia) (by lia)
 obtain⟨its,ei,ho,hd,hc⟩:=x5c (cs:=cutL ns (some 5) (some 61)) (P:=P) (many:=m) (ag:=28) p1 p2 (by lia) (by lia) (Nat.le_trans (x3f ns _ _) hn)
 have hl:=Item.manys_length its
 have ho':Item.oks P nm.length its:=by rw[nl];exact ho
 have et:=x4z N (show 0<=P by lia) (show P<=9999 by lia) (show Item.manys its<=60 by lia) (show Item.deeps its<=4 by lia) ho'
 have es:=fun l=>s_N (l:=l) N (show 0<=P by lia) (show P<=9999 by lia) (show Item.manys its<=60 by lia) (show Item.deeps its<=4 by lia) ho'
 have er:=s_O N p1 p2 hP hd hc ho'
 have ok3:=z8g N (show 0<=P by lia) (show P<=9999 by lia) (show Item.manys its<=60 by lia) ho'
 have tk:sOk (z6j (z1y P nm its))=true:=by
  unfold sOk
  rw[<-Array.all_toList,List.all_eq_true]
  intro z hz
  have e:z6j (z1y P nm its)=Str.join (one 10) ((z1y P nm its).map rowT):=by unfold z6j;rw[z8i];exact StrLaws.glued_eq_join _ _
  rw[e] at hz
  rcases z8j 10 hz with rfl | ⟨x,hx,hzx⟩
  ·rfl
  ·obtain⟨ws,hw,rfl⟩:=List.mem_map.mp hx
   rw[y1b] at hzx
   rcases z8j 32 hzx with rfl | ⟨y,hy,hzy⟩
   ·rfl
   ·have:=List.all_eq_true.mp (show y.cps.toList.all (·<0x110000)=true by
     rw[Array.all_toList]
     exact x1w N (show 0<=P by lia) (show P<=9999 by lia) ho' ws hw y hy) z hzy
    exact this
 have nN:(namS false nm).noL=true:=by
  show(D.tup (nm.map D.str)).noL=true
  simp[D.noL,z0v]
 have nI:=z9a its
 generalize hT:z6j (z1y P nm its)=T at *
 refine z1g rfl ?_
 unfold x6t
 refine z1x (d:=.int P) (by walk_at "evs";simp only[eP];walk_at "evs") ?_
 refine z1x (d:=.int m) (by walk_at "evs";rw[em]) ?_
 refine z1x (d:=namS false nm) (z3f (z1r (ds:=[.int (z7n ns 2),.int (z7n ns 3),.int m]) (by walk_at "evs") en) nN) ?_
 refine z1x (d:=.tup (its.map Item.d)) (by walk_at "evs";rw[x0x];simp only[ei];walk_at "evs") ?_
 refine z1x (d:=.str T) (z3f (z1r (ds:=[.int P,namS false nm,.tup (its.map Item.d)]) rfl et) rfl) ?_
 show gSt _ _ [En.ro (.lst (ns.map D.int)),.ro (.int P),.ro (.int m),.ro (namS false nm),.ro (.tup (its.map Item.d)),.ro (.str T),.no,.no]=_
 refine z9v (ds:=[namS false nm,namS true nm]) (fun j Γ=>∃(x6 x7:En),Γ=[.ro (.lst (ns.map D.int)),.ro (.int P),.ro (.int m),.ro (namS false nm),.ro (.tup (its.map Item.d)),.ro (.str T),x6,x7]) ?_ ⟨_,_,rfl⟩ ?_ ?_
 ·have q:gL (y0a (gCons (gVr 3) (gCons (gL (z4v (gV 3))) gNil))) [En.ro (.lst (ns.map D.int)),.ro (.int P),.ro (.int m),.ro (namS false nm),.ro (.tup (its.map Item.d)),.ro (.str T),.no,.no] = .ok (.lst [namS false nm,namS true nm]) :=
   z5p (y4r (z0j rfl (z0j (z5p (z7i (l:=false) rfl)) rfl)) (by simp))
  unfold gSeq
  rw[q]
  rfl
 ·rintro j d Γ hd' ⟨x6,x7,rfl⟩
  obtain⟨l,rfl⟩:∃l,d=namS l nm:=by
   rcases j with _ | _ | j
   ·exact⟨false,by simpa using hd'.symm⟩
   ·exact⟨true,by simpa using hd'.symm⟩
   ·simp at hd'
  show Ends (gSt _ _ [En.ro (.lst (ns.map D.int)),.ro (.int P),.ro (.int m),.ro (namS false nm),.ro (.tup (its.map Item.d)),.ro (.str T),.ro (namS l nm),x7]) _
  rw[z1x (d:=.str T) (z3f (z1r (ds:=[.int P,namS l nm,.tup (its.map Item.d)]) rfl (es l)) rfl) rfl]
  show Ends (gIfS _ _ _ [En.ro (.lst (ns.map D.int)),.ro (.int P),.ro (.int m),.ro (namS false nm),.ro (.tup (its.map Item.d)),.ro (.str T),.ro (namS l nm),.ro (.str T)]) _
  refine .nx (y0j (x4s (x1n (b:=true) (y0w rfl)) (y0w (z3j (a:=.str T) (b:=.str T) rfl rfl ?_)))) ⟨_,_,rfl⟩
  rw[z9n tk tk,decide_eq_true rfl];rfl
 ·rintro Γ ⟨x6,x7,rfl⟩
  have pl:PlD 11 (.tup [.int P,namS false nm,.tup (its.map Item.d)]):=by
   refine⟨by simp,fun d hd'=>?_⟩
   simp only[List.mem_cons,List.not_mem_nil,or_false] at hd'
   rcases hd' with rfl | rfl | rfl
   ·exact trivial
   ·refine⟨by rw[List.length_map];have:=N.l3;lia,fun d hd'=>?_⟩
    obtain⟨x,hx,rfl⟩:=List.mem_map.mp hd'
    exact N.ok x hx
   ·refine⟨by rw[List.length_map];lia,?_⟩
    rw[<-Item.ds_map]
    exact Item.plds (P:=P) (many:=m) (by lia) its 9 ho (by lia) (by lia)
  have np:=y8w _ _ pl
  have ll:D.lay 40 (.tup [.int P,namS false nm,.tup (its.map Item.d)])=true:=x5k 40 _ (x7o (by lia) pl)
  have lp:=x7p _ _ pl
  have ep:=x4y 11 _ pl
  refine z1x (d:=.tup [.int P,namS false nm,.tup (its.map Item.d)]) (z3f (z1r (ds:=[.str T]) rfl er) np) ?_
  refine z2g (x1l (z1r (ds:=[.tup [.int P,namS false nm,.tup (its.map Item.d)]]) rfl ep) ?_)
  refine z3j (a:=.tup [.int P,namS false nm,.tup (its.map Item.d)]) (b:=.tup [.int P,namS false nm,.tup (its.map Item.d)]) rfl ?_ ?_
  ·unfold gTup
   rw[z0j (d:=.int P) rfl (z0j (d:=namS false nm) rfl (z0j (d:=.tup (its.map Item.d)) rfl rfl)),R.bind_ok,z0h (by simp)]
  ·show R.guard _ _=_
   rw[z0h ⟨ll,ll⟩,z7a lp]
end L3
namespace L3
open PySem PySem.Spec PyProof.Rows L2
noncomputable abbrev St:=L2.St
noncomputable instance:Monad R where
 pure:=R.ok
 bind:=R.bind
mutual
noncomputable def Is(K:PySem.W.Frag)(H:Hp):D->V->Prop
 | .non,v=>v = .non
 | .bl b,v=>v = .bl b
 | .int i,v=>v = .int i
 | .str x,v=>v = .str x
 | .tup ds,v=>∃a xs,v = .ref a/\SqT K H a xs/\IsAll K H ds xs
 | .lst ds,v=>∃a xs,v = .ref a/\SqL K H a xs/\IsAll K H ds xs
 | .dct,v=>∃a ob,v = .ref a/\H a=some (.frz ob (.own 0))/\ob.cls = .type "dict"
 | .exc c,v=>∃e oe C,v = .ref e/\H e=some (.frz oe (.own 0))/\oe.cls = .ref C/\PySem.W.nsIn K mainGlobals c.nm=some (some (.ref C))
noncomputable def IsAll(K:PySem.W.Frag)(H:Hp):List D->List V->Prop
 | [],xs=>xs=[]
 | d::ds,xs=>∃x r,xs=x::r/\Is K H d x/\IsAll K H ds r
end
structure Sub (K:PySem.W.Frag) (H H':Hp):Prop where
 t:∀a xs,SqT K H a xs->SqT K H' a xs
 l:∀a xs,SqL K H a xs->SqL K H' a xs
 x:∀a o u,H a=some (.frz o u)->H' a=some (.frz o u)
theorem z2e{K:PySem.W.Frag}{H H':Hp}{a:Addr}{xs:List V}(e:Same H H')(h:SqT K H a xs):SqT K H' a xs:=by
 rcases h with (h | ⟨o,h⟩) | h
 ·exact .inl (.inl (e _ _ h))
 ·exact .inl (.inr ⟨o,e _ _ h⟩)
 ·exact .inr h
theorem Sub.of_same{K:PySem.W.Frag}{H H':Hp}(e:Same H H'):Sub K H H':=⟨fun _ _ h=>z2e e h,fun _ _ h=>e.seq h,fun _ _ _ h=>e _ _ h⟩
theorem Sub.refl{K:PySem.W.Frag}{H:Hp}:Sub K H H:=⟨fun _ _ h=>h,fun _ _ h=>h,fun _ _ _ h=>h⟩
mutual
theorem Is.sub{K:PySem.W.Frag}{H H':Hp}(s:Sub K H H'):∀(d:D) (v:V),Is K H d v->Is K H' d v
 | .non,_,h=>h
 | .bl _,_,h=>h
 | .int _,_,h=>h
 | .str _,_,h=>h
 | .tup ds,v,h=>by
   unfold Is at h ⊢
   obtain⟨a,xs,e,h1,h2⟩:=h
   exact⟨a,xs,e,s.t a xs h1,IsAll.sub s ds xs h2⟩
 | .lst ds,v,h=>by
   unfold Is at h ⊢
   obtain⟨a,xs,e,h1,h2⟩:=h
   exact⟨a,xs,e,s.l a xs h1,IsAll.sub s ds xs h2⟩
 | .dct,v,h=>by
   unfold Is at h ⊢
   obtain⟨a,ob,e,h1,h2⟩:=h
   exact⟨a,ob,e,s.x a ob _ h1,h2⟩
 | .exc c,v,h=>by
   unfold Is at h ⊢
   obtain⟨a,oe,C,e,h1,h2⟩:=h
   exact⟨a,oe,C,e,s.x a oe _ h1,h2⟩
theorem IsAll.sub{K:PySem.W.Frag}{H H':Hp}(s:Sub K H H'):∀(ds:List D) (xs:List V),IsAll K H ds xs->IsAll K H' ds xs
 | [],_,h=>h
 | d::ds,xs,h=>by
   unfold IsAll at h ⊢
   obtain⟨x,r,e,h1,h2⟩:=h
   exact⟨x,r,e,Is.sub s d x h1,IsAll.sub s ds r h2⟩
end
theorem Is.same{K:PySem.W.Frag}{H H':Hp}{d:D}{v:V}(h:Is K H d v)(e:Same H H'):Is K H' d v:=Is.sub (.of_same e) d v h
theorem IsAll.same{K:PySem.W.Frag}{H H':Hp}{ds:List D}{xs:List V}(h:IsAll K H ds xs)(e:Same H H'):IsAll K H' ds xs:=IsAll.sub (.of_same e) ds xs h
theorem Is.int_iff{K:PySem.W.Frag}{H:Hp}{i:Int}{v:V}:Is K H (.int i) v↔v = .int i:=by unfold Is;rfl
theorem Is.bl_iff{K:PySem.W.Frag}{H:Hp}{b:Bool}{v:V}:Is K H (.bl b) v↔v = .bl b:=by unfold Is;rfl
theorem Is.str_iff{K:PySem.W.Frag}{H:Hp}{x:Str}{v:V}:Is K H (.str x) v↔v = .str x:=by unfold Is;rfl
theorem Is.non_iff{K:PySem.W.Frag}{H:Hp}{v:V}:Is K H .non v↔v = .non:=by unfold Is;rfl
theorem Is.tup_iff{K:PySem.W.Frag}{H:Hp}{ds:List D}{v:V}:Is K H (.tup ds) v↔∃a xs,v = .ref a/\SqT K H a xs/\IsAll K H ds xs:=by conv=>lhs;unfold Is
theorem Is.lst_iff{K:PySem.W.Frag}{H:Hp}{ds:List D}{v:V}:Is K H (.lst ds) v↔∃a xs,v = .ref a/\SqL K H a xs/\IsAll K H ds xs:=by conv=>lhs;unfold Is
theorem IsAll.nil_iff{K:PySem.W.Frag}{H:Hp}{xs:List V}:IsAll K H [] xs↔xs=[]:=by unfold IsAll;rfl
theorem IsAll.cons_iff{K:PySem.W.Frag}{H:Hp}{d:D}{ds:List D}{xs:List V}:IsAll K H (d::ds) xs↔∃x r,xs=x::r/\Is K H d x/\IsAll K H ds r:=by conv=>lhs;unfold IsAll
theorem IsAll.nil{K:PySem.W.Frag}{H:Hp}:IsAll K H [] []:=IsAll.nil_iff.mpr rfl
theorem IsAll.cons{K:PySem.W.Frag}{H:Hp}{d:D}{ds:List D}{x:V}{xs:List V}(h:Is K H d x)(t:IsAll K H ds xs):IsAll K H (d::ds) (x::xs):=IsAll.cons_iff.mpr ⟨x,xs,rfl,h,t⟩
theorem IsAll.length{K:PySem.W.Frag}{H:Hp}:∀{ds:List D} {xs:List V},IsAll K H ds xs->ds.length=xs.length
 | [],xs,h=>by rw[IsAll.nil_iff.mp h];rfl
 | d::ds,xs,h=>by
   obtain⟨x,r,rfl,_,t⟩:=IsAll.cons_iff.mp h
   rw[List.length_cons,List.length_cons,IsAll.length t]
theorem IsAll.get{K:PySem.W.Frag}{H:Hp}:∀{ds:List D} {xs:List V} {i:Nat} {d:D},IsAll K H ds xs->ds[i]? = some d->∃x,xs[i]? = some x/\Is K H d x
 | [],_,_,_,_,e=>by simp at e
 | d::ds,xs,0,d',h,e=>by
   obtain⟨x,r,rfl,hx,t⟩:=IsAll.cons_iff.mp h
   simp at e;subst e
   exact⟨x,rfl,hx⟩
 | d::ds,xs,i+1,d',h,e=>by
   obtain⟨x,r,rfl,hx,t⟩:=IsAll.cons_iff.mp h
   obtain⟨y,e1,hy⟩:=IsAll.get (i:=i) t (by simpa using e)
   exact⟨y,by simpa using e1,hy⟩
theorem IsAll.getX{K:PySem.W.Frag}{H:Hp}{ds:List D}{xs:List V}{i:Nat}{x:V}(h:IsAll K H ds xs)(e:xs[i]? = some x):∃d,ds[i]? = some d/\Is K H d x:=by
 have hi:i<xs.length:=(List.getElem?_eq_some_iff.mp e).1
 have hd:i<ds.length:=by rw[h.length];exact hi
 obtain⟨y,e1,hy⟩:=h.get (List.getElem?_eq_getElem hd)
 rw[e] at e1;cases e1
 exact⟨_,List.getElem?_eq_getElem hd,hy⟩
theorem IsAll.append{K:PySem.W.Frag}{H:Hp}:∀{ds es:List D} {xs ys:List V},IsAll K H ds xs->IsAll K H es ys->IsAll K H (ds++es) (xs++ys)
 | [],_,_,_,h,t=>by rw[IsAll.nil_iff.mp h];exact t
 | d::ds,es,xs,ys,h,t=>by
   obtain⟨x,r,rfl,hx,tr⟩:=IsAll.cons_iff.mp h
   exact IsAll.cons hx (IsAll.append tr t)
theorem IsAll.drop{K:PySem.W.Frag}{H:Hp}:∀{ds:List D} {xs:List V} (n:Nat),IsAll K H ds xs->IsAll K H (ds.drop n) (xs.drop n)
 | _,_,0,h=>h
 | [],xs,n+1,h=>by rw[IsAll.nil_iff.mp h];exact IsAll.nil
 | d::ds,xs,n+1,h=>by
   obtain⟨x,r,rfl,hx,tr⟩:=IsAll.cons_iff.mp h
   exact IsAll.drop n tr
theorem IsAll.take{K:PySem.W.Frag}{H:Hp}:∀{ds:List D} {xs:List V} (n:Nat),IsAll K H ds xs->IsAll K H (ds.take n) (xs.take n)
 | _,_,0,_=>by rw[List.take_zero,List.take_zero];exact IsAll.nil
 | [],xs,n+1,h=>by rw[IsAll.nil_iff.mp h];exact IsAll.nil
 | d::ds,xs,n+1,h=>by
   obtain⟨x,r,rfl,hx,tr⟩:=IsAll.cons_iff.mp h
   exact IsAll.cons hx (IsAll.take n tr)
theorem IsAll.set{K:PySem.W.Frag}{H:Hp}{d':D}{x':V}(q:Is K H d' x'):∀{ds:List D} {xs:List V} (n:Nat),IsAll K H ds xs->IsAll K H (ds.set n d') (xs.set n x')
 | [],xs,n,h=>by rw[IsAll.nil_iff.mp h];exact IsAll.nil
 | d::ds,xs,0,h=>by
   obtain⟨x,r,rfl,hx,tr⟩:=IsAll.cons_iff.mp h
   exact IsAll.cons q tr
 | d::ds,xs,n+1,h=>by
   obtain⟨x,r,rfl,hx,tr⟩:=IsAll.cons_iff.mp h
   exact IsAll.cons hx (IsAll.set q n tr)
theorem IsAll.ints{K:PySem.W.Frag}{H:Hp}:∀ns:List Int,IsAll K H (ns.map D.int) (ns.map V.int)
 | []=>IsAll.nil
 | n::ns=>IsAll.cons (Is.int_iff.mpr rfl) (IsAll.ints ns)
theorem IsAll.ints_eq{K:PySem.W.Frag}{H:Hp}:∀{ns:List Int} {xs:List V},IsAll K H (ns.map D.int) xs->xs=ns.map V.int
 | [],xs,h=>IsAll.nil_iff.mp h
 | n::ns,xs,h=>by
   obtain⟨x,r,rfl,hx,tr⟩:=IsAll.cons_iff.mp h
   rw[Is.int_iff.mp hx,IsAll.ints_eq tr];rfl
noncomputable def hid(F:List Addr)(H:Hp):Hp:=fun b=>if b∈F then none else H b
theorem z7u{F:List Addr}{H:Hp}{b:Addr}(h:b∈F):hid F H b=none:=by unfold hid;rw[if_pos h]
theorem z0k{F:List Addr}{H:Hp}{b:Addr}(h:b ∉ F):hid F H b=H b:=by unfold hid;rw[if_neg h]
theorem z1e{F:List Addr}{H:Hp}{b:Addr}{o:HO}(h:hid F H b=some o):b ∉ F/\H b=some o:=by
 unfold hid at h
 by_cases q:b∈F
 ·rw[if_pos q] at h;cases h
 ·rw[if_neg q] at h;exact⟨q,h⟩
noncomputable def FOk(H:Hp)(F:List Addr):Prop:=∀b∈F,∃xs,H b=some (.lst xs)
theorem FOk.same{H H':Hp}{F:List Addr}(h:FOk H F)(e:Same H H'):FOk H' F:=fun b hb=>let ⟨xs,q⟩:=h b hb;⟨xs,e _ _ q⟩
theorem FOk.nil{H:Hp}:FOk H []:=fun b hb=>by simp at hb
theorem FOk.cons{H:Hp}{F:List Addr}{a:Addr}{xs:List V}(h:FOk H F)(e:H a=some (.lst xs)):FOk H (a::F):=fun b hb=>by
 rcases List.mem_cons.mp hb with z | z
 ·subst z;exact⟨xs,e⟩
 ·exact h b z
theorem x2u{H:Hp}{F:List Addr}{a:Addr}:Same (hid (a::F) H) (hid F H):=fun b o h=>by
 obtain⟨h1,h2⟩:=z1e h
 rw[z0k fun z=>h1 (List.mem_cons_of_mem _ z)];exact h2
theorem y4u{H H':Hp}{F:List Addr}{a:Addr}(e:Same H H')(hn:H a=none):Same (hid F H) (hid (a::F) H'):=fun b o h=>by
 obtain⟨h1,h2⟩:=z1e h
 rw[z0k fun z=>(List.mem_cons.mp z).elim (fun q=>by rw[q,hn] at h2;cases h2) h1]
 exact e _ _ h2
theorem z2b{H H':Hp}{F:List Addr}(e:Same H H'):Same (hid F H) (hid F H'):=fun b o h=>by
 obtain⟨h1,h2⟩:=z1e h
 rw[z0k h1];exact e _ _ h2
theorem z1j{H:Hp}{F:List Addr}:Same (hid F H) H:=fun b o h=>(z1e h).2
theorem y8j{K:PySem.W.Frag}{H:Hp}{F:List Addr}{a:Addr}{xs:List V}(fo:FOk H F)(h:SqT K H a xs):SqT K (hid F H) a xs:=by
 rcases h with (h1 | ⟨o,h1⟩) | h1
 ·refine .inl (.inl ?_)
  rw[z0k fun q=>by obtain⟨ys,z⟩:=fo a q;rw[h1] at z;cases z];exact h1
 ·refine .inl (.inr ⟨o,?_⟩)
  rw[z0k fun q=>by obtain⟨ys,z⟩:=fo a q;rw[h1] at z;cases z];exact h1
 ·exact .inr h1
mutual
theorem Is.hid{K:PySem.W.Frag}{H:Hp}{F:List Addr}(fo:FOk H F):∀(d:D) (v:V),d.noL=true->Is K H d v->Is K (hid F H) d v
 | .non,_,_,h=>h
 | .bl _,_,_,h=>h
 | .int _,_,_,h=>h
 | .str _,_,_,h=>h
 | .tup ds,v,n,h=>by
   obtain⟨a,xs,e,h1,h2⟩:=Is.tup_iff.mp h
   exact Is.tup_iff.mpr ⟨a,xs,e,y8j fo h1,IsAll.hid fo ds xs (by simpa [D.noL] using n) h2⟩
 | .lst ds,v,n,h=>by simp[D.noL] at n
 | .dct,v,n,h=>by simp[D.noL] at n
 | .exc c,v,n,h=>by
   unfold Is at h ⊢
   obtain⟨a,oe,C,e,h1,h2⟩:=h
   refine⟨a,oe,C,e,?_,h2⟩
   rw[z0k fun q=>by obtain⟨ys,z⟩:=fo a q;rw[h1] at z;cases z];exact h1
theorem IsAll.hid{K:PySem.W.Frag}{H:Hp}{F:List Addr}(fo:FOk H F):∀(ds:List D) (xs:List V),D.noLs ds=true->IsAll K H ds xs->IsAll K (hid F H) ds xs
 | [],_,_,h=>h
 | d::ds,xs,n,h=>by
   obtain⟨x,r,e,h1,h2⟩:=IsAll.cons_iff.mp h
   have n':d.noL=true/\D.noLs ds=true:=by simpa [D.noLs] using n
   exact IsAll.cons_iff.mpr ⟨x,r,e,Is.hid fo d x n'.1 h1,IsAll.hid fo ds r n'.2 h2⟩
end
structure Rel (K:PySem.W.Frag) (H:Hp) (F:List Addr) (Γ:G) (σ:St):Prop where
 len:Γ.length=σ.length
 ro:∀(i:Nat) d,Γ[i]? = some (.ro d)->∃v,σ[i]? = some (some v)/\Is K (hid F H) d v
 own:∀(i:Nat) ds,Γ[i]? = some (.own ds)->∃a xs,σ[i]? = some (some (.ref a))/\a∈F/\H a=some (.lst xs)/\IsAll K (hid F H) ds xs
 inj:∀(i j:Nat) ds es a,Γ[i]? = some (.own ds)->Γ[j]? = some (.own es)->σ[i]? = some (some (.ref a))->σ[j]? = some (some (.ref a))->i=j
theorem Rel.same{K:PySem.W.Frag}{H H':Hp}{F:List Addr}{Γ:G}{σ:St}(r:Rel K H F Γ σ)(e:Same H H'):Rel K H' F Γ σ :=
 ⟨r.len,fun i d h=>let ⟨v,h1,h2⟩:=r.ro i d h;⟨v,h1,h2.same (z2b e)⟩,fun i ds h=>let ⟨a,xs,h1,h2,h3,h4⟩:=r.own i ds h;⟨a,xs,h1,h2,e _ _ h3,h4.same (z2b e)⟩,r.inj⟩
theorem Rel.look{K:PySem.W.Frag}{H:Hp}{F:List Addr}{Γ:G}{σ:St}(r:Rel K H F Γ σ){i:Nat}{d:D}(h:lk Γ i = .ok d):∃v,σ[i]? = some (some v)/\Is K H d v:=by
 unfold lk at h
 cases e:Γ[i]? with
 | none=>rw[e] at h;cases h
 | some en =>
   rw[e] at h
   cases en with
   | no=>cases h
   | ro d'=>cases h;obtain⟨v,h1,h2⟩:=r.ro i d e;exact⟨v,h1,h2.same z1j⟩
   | own ds =>
     cases h
     obtain⟨a,xs,h1,h2,h3,h4⟩:=r.own i ds e
     exact⟨.ref a,h1,Is.lst_iff.mpr ⟨a,xs,rfl,SqL.of h3,h4.same z1j⟩⟩
theorem Rel.lookr{K:PySem.W.Frag}{H:Hp}{F:List Addr}{Γ:G}{σ:St}(r:Rel K H F Γ σ){i:Nat}{d:D}(h:lkr Γ i = .ok d):∃v,σ[i]? = some (some v)/\Is K (hid F H) d v:=by
 unfold lkr at h
 cases e:Γ[i]? with
 | none=>rw[e] at h;cases h
 | some en =>
   rw[e] at h
   cases en with
   | no=>cases h
   | ro d'=>cases h;exact r.ro i d e
   | own ds=>cases h
structure Ext (H:Hp) (F:List Addr) (H':Hp) (F':List Addr):Prop where
 keep:∀b o,b ∉ F->H b=some o->H' b=some o
 old:∀b,b∈F'->b∈F∨H b=none
theorem Ext.refl{H:Hp}{F:List Addr}:Ext H F H F:=⟨fun _ _ _ h=>h,fun _ h=>.inl h⟩
theorem Ext.of_same{H H':Hp}{F:List Addr}(e:Same H H'):Ext H F H' F:=⟨fun _ _ _ h=>e _ _ h,fun _ h=>.inl h⟩
theorem Ext.trans{H H1 H2:Hp}{F F1 F2:List Addr}(a:Ext H F H1 F1)(b:Ext H1 F1 H2 F2):Ext H F H2 F2 where
 keep:=fun c o hc h=>b.keep c o (fun z=>(a.old c z).elim hc fun n=>by rw[h] at n;cases n) (a.keep c o hc h)
 old:=fun c hc=>by
  rcases b.old c hc with h | h
  ·exact a.old c h
  ·by_cases q:c∈F
   ·exact .inl q
   ·refine .inr ?_
    cases e:H c with
    | none=>rfl
    | some o=>rw[a.keep c o q e] at h;cases h
theorem Ext.same{H H':Hp}{F':List Addr}(e:Ext H [] H' F'):Same H H':=fun b o h=>e.keep b o (by simp) h
theorem Ext.hid{H H':Hp}{F F':List Addr}(e:Ext H F H' F'):Same (hid F H) (hid F' H'):=fun b o h=>by
 obtain⟨h1,h2⟩:=z1e h
 have h3:=e.keep b o h1 h2
 rw[z0k fun z=>(e.old b z).elim h1 fun n=>by rw[h2] at n;cases n]
 exact h3
noncomputable def y3s(X:Cx)(pins:List (Addr×Obj))(σ:St)(H:Hp)(c:Er)(x:Value)(s:Shared):Prop :=
 Inv X pins σ H s/\∃(e C:Addr) (oe:Obj) (vs:Array Value),x = .ref e/\X.mg c.nm=some (.ref C)/\H e=none/\X.s₀.heap.get? e=none/\e≠X.env.locals/\(∀y k,X.env.cells.lookup y=some k->k≠e)/\(∀p∈X.pn++pins,p.1≠e) /\
  s.heap.get? e=some oe/\oe.cls = .ref C/\oe.data = .fields vs/\(∃a0,vs[0]? = some a0) /\
  (vs[1]? = some .none∨∃(T:Addr) (oT:Obj) (ts:Array Value),vs[1]? = some (.ref T)/\H T=none/\X.s₀.heap.get? T=none/\T≠X.env.locals/\(∀y k,X.env.cells.lookup y=some k->k≠T)/\(∀p∈X.pn++pins,p.1≠T)/\T≠e /\
    s.heap.get? T=some oT/\oT.data = .fields ts/\(ts[3]? = some .none∨∃L,X.env.frame=some L/\ts[3]? = some (rawInt L)))
noncomputable def Post(X:Cx)(pins:List (Addr×Obj))(σ:St)(H:Hp)(r:R D)(u:Value)(s':Shared):Prop :=
 ∃d v H',r = .ok d/\Inv X pins σ H' s'/\RelV v u/\Same H H'/\Is X.K H' d v
noncomputable def z1a{α:Type}(X:Cx)(pins:List (Addr×Obj))(σ:St)(H:Hp)(r:R α)(x:Value)(s':Shared):Prop :=
 ∃c H',r = .er c/\Same H H'/\y3s X pins σ H' c x s'
theorem z1a.bind{α β:Type}{X:Cx}{pins:List (Addr×Obj)}{σ:St}{H:Hp}{r:R α}{x:Value}{s':Shared}(h:z1a X pins σ H r x s')(k:α->R β):z1a X pins σ H (r>>=k) x s':=by
 obtain⟨c,H',e,h1,h2⟩:=h
 exact⟨c,H',R.stop e k,h1,h2⟩
theorem z1a.later{α β:Type}{X:Cx}{pins:List (Addr×Obj)}{σ:St}{H H1:Hp}{r:R α}{a:α}{k:α->R β}{x:Value}{s':Shared}(e:r = .ok a)(s:Same H H1)(h:z1a X pins σ H1 (k a) x s'):z1a X pins σ H (r>>=k) x s':=by
 obtain⟨c,H',e1,h1,h2⟩:=h
 exact⟨c,H',(R.step e k).trans e1,s.trans h1,h2⟩
structure PD (X:Cx) (e:Expr) (g:G->R D):Prop where
 run:∀(pins:List (Addr×Obj)) (s:Shared) (σ:St) (H:Hp) (F:List Addr) (Γ:G),Inv X pins σ H s->FOk H F->Rel X.K H F Γ σ->g Γ ≠ .no ->
  wpAny (model X.prog X.w) X.A (eval e X.env) (Post X pins σ H (g Γ)) (z1a X pins σ H (g Γ)) s
structure PDr (X:Cx) (e:Expr) (g:G->R D):Prop where
 run:∀(pins:List (Addr×Obj)) (s:Shared) (σ:St) (H:Hp) (F:List Addr) (Γ:G),Inv X pins σ H s->FOk H F->Rel X.K H F Γ σ->g Γ ≠ .no ->
  wpAny (model X.prog X.w) X.A (eval e X.env) (fun u s'=>∃d v H',g Γ = .ok d/\Inv X pins σ H' s'/\RelV v u/\Same H H'/\Is X.K (hid F H') d v) (z1a X pins σ H (g Γ)) s
structure PF (X:Cx) (e:Expr) (g:G->R (List D)):Prop where
 run:∀(pins:List (Addr×Obj)) (s:Shared) (σ:St) (H:Hp) (F:List Addr) (Γ:G),Inv X pins σ H s->FOk H F->Rel X.K H F Γ σ->g Γ ≠ .no ->
  wpAny (model X.prog X.w) X.A (eval e X.env) (fun u s'=>∃ds a xs H',g Γ = .ok ds/\Inv X pins σ H' s'/\u = .ref a/\Same H H'/\H a=none/\H' a=some (.lst xs)/\IsAll X.K (hid (a::F) H') ds xs) (z1a X pins σ H (g Γ)) s
structure PTD (X:Cx) (e:Expr) (g:G->R Bool):Prop where
 run:∀(pins:List (Addr×Obj)) (s:Shared) (σ:St) (H:Hp) (F:List Addr) (Γ:G),Inv X pins σ H s->FOk H F->Rel X.K H F Γ σ->g Γ ≠ .no ->
  wpAny (model X.prog X.w) X.A (isTrue e X.env (eval e X.env)) (fun b s'=>∃H',g Γ = .ok b/\Inv X pins σ H' s'/\Same H H') (z1a X pins σ H (g Γ)) s
structure PWD (X:Cx) (e:Expr) (g:G->R Bool):Prop where
 run:∀(whole:Sem Value) (pins:List (Addr×Obj)) (s:Shared) (σ:St) (H:Hp) (F:List Addr) (Γ:G),Inv X pins σ H s->FOk H F->Rel X.K H F Γ σ->g Γ ≠ .no ->
  wpAny (model X.prog X.w) X.A (isTrue e X.env whole) (fun b s'=>∃H',g Γ = .ok b/\Inv X pins σ H' s'/\Same H H') (z1a X pins σ H (g Γ)) s
theorem PWD.pt{X:Cx}{e:Expr}{g:G->R Bool}(h:PWD X e g):PTD X e g:=⟨h.run _⟩
structure PAD (X:Cx) (es:List Expr) (g:G->R (List D)):Prop where
 run:∀(pos:Pos) (pins:List (Addr×Obj)) (s:Shared) (σ:St) (H:Hp) (F:List Addr) (Γ:G),Inv X pins σ H s->FOk H F->Rel X.K H F Γ σ->g Γ ≠ .no ->
  wpAny (model X.prog X.w) X.A (spliced (backTo pos (starEach es X.env))) (fun us s'=>∃ds vs H',g Γ = .ok ds/\Inv X pins σ H' s'/\Vals vs us/\Same H H'/\IsAll X.K H' ds vs) (z1a X pins σ H (g Γ)) s
section
variable {X:Cx}{e a b c:Expr}{g ga gb gc:G->R D}{pos:Pos}
theorem PDr.pd(h:PDr X e g):PD X e g:=⟨fun pins s σ H F Γ I fo rl hg =>
 thn (h.run pins s σ H F Γ I fo rl hg) fun _ _ ⟨d,v,H',e1,I',r,S,i⟩=>⟨d,v,H',e1,I',r,S,i.same z1j⟩⟩
theorem PD.ro(h:PD X e g):PDr X e (gNL g):=⟨fun pins s σ H F Γ I fo rl hg =>
 wpAny_mono (h.run pins s σ H F Γ I fo rl (R.left hg)) (fun _ _ ⟨d,v,H',e1,I',r,S,i⟩=>by
  have hgx:=R.next hg e1
  obtain⟨n,e2⟩:=R.guard_ne hgx
  exact⟨d,v,H',(R.step e1 _).trans e2,I',r,S,Is.hid (fo.same S) d v n i⟩) fun _ _ x=>x.bind _⟩
theorem PF.ro{g:G->R (List D)}(h:PF X e g):PDr X e (gL g):=⟨fun pins s σ H F Γ I fo rl hg =>
 wpAny_mono (h.run pins s σ H F Γ I fo rl (R.left hg)) (fun _ _ ⟨ds,p,xs,H',e1,I',eu,S,hn,hp,i⟩=>by
  have hF:p ∉ F:=fun z=>by obtain⟨ys,q⟩:=fo p z;rw[hn] at q;cases q
  exact⟨.lst ds,.ref p,H',(R.step e1 _),I',eu,S,Is.lst_iff.mpr ⟨p,xs,rfl,SqL.of (by rw[z0k hF];exact hp),i.same x2u⟩⟩) fun _ _ x=>x.bind _⟩
theorem PF.pd{g:G->R (List D)}(h:PF X e g):PD X e (gL g):=h.ro.pd
theorem PD.of{t:TE}(h:PE X.nox e t)(hq:∀σ H F Γ,FOk H F->Rel X.K H F Γ σ->g Γ ≠ .no->t σ H fun v H'=>∃d,g Γ = .ok d/\Same H H'/\Is X.K H' d v):PD X e g:=⟨fun pins s σ H F Γ I fo rl hg =>
 wpAny_mono (h pins s σ H _ (I.wish _) (hq σ H F Γ fo rl hg)) (fun _ _ ⟨v,H',I',r,d,e1,S,i⟩=>⟨d,v,H',e1,I'.unwish,r,S,i⟩) fun _ _ z=>False.elim z⟩
theorem z0b(i:Nat){x:Str}(hN:X.N[i]? = some x:=by rfl)(hv:Vis X.env.scope x:=by first | exact Or.inl rfl | exact Or.inr (Or.inl rfl) | exact Or.inr (Or.inr rfl))(hd:(x==("__debug__":Str))=false:=by decide)
 (hcd:(x==("__classdict__":Str))=false:=by decide):PD X (.Name x pos) (gV i) :=
 PD.of (t:=tVar i) (z7r (X:=X.nox) hN hv hd hcd) fun σ H F Γ fo rl hg=>by
  obtain⟨d,e⟩:=x9x hg
  obtain⟨v,h1,h2⟩:=rl.look e
  exact⟨v,h1,d,e,.refl _,h2⟩
theorem z1m(i:Nat){x:Str}(hN:X.N[i]? = some x:=by rfl)(hv:Vis X.env.scope x:=by first | exact Or.inl rfl | exact Or.inr (Or.inl rfl) | exact Or.inr (Or.inr rfl))(hd:(x==("__debug__":Str))=false:=by decide)
 (hcd:(x==("__classdict__":Str))=false:=by decide):PDr X (.Name x pos) (gVr i):=by
 refine⟨fun pins s σ H F Γ I fo rl hg=>?_⟩
 obtain⟨d,e⟩:=x8g hg
 obtain⟨v,h1,h2⟩:=rl.lookr e
 exact wpAny_mono (z7r (X:=X.nox) hN hv hd hcd pins s σ H (fun v' H'=>v'=v/\H'=H) (I.wish _) ⟨v,h1,rfl,rfl⟩) (fun _ _ ⟨v',H',I',r,e1,e2⟩=>by
  subst e1 e2
  exact⟨d,v',H',e,I'.unwish,r,.refl _,h2⟩) fun _ _ z=>False.elim z
theorem z0e{i:Int}{j}:PD X (.Constant (.int i) j pos) (gC (.int i)):=PD.of (t:=tC (.int i)) x7s fun _ _ _ _ _ _ _=>⟨_,rfl,.refl _,Is.int_iff.mpr rfl⟩
theorem x9n{b:Bool}{j}:PD X (.Constant (.bool b) j pos) (gC (.bl b)):=PD.of (t:=tC (.bl b)) x9l fun _ _ _ _ _ _ _=>⟨_,rfl,.refl _,Is.bl_iff.mpr rfl⟩
theorem z0m{x:Str}{j}:PD X (.Constant (.str x) j pos) (gC (.str x)):=PD.of (t:=tC (.str x)) x7r fun _ _ _ _ _ _ _=>⟨_,rfl,.refl _,Is.str_iff.mpr rfl⟩
theorem y9f{x:Str}{d:D}{v:V}{u:Value}(hg:Gl X x)(hm:X.mg x=some u)(r:RelV v u)(i:∀H,Is X.K H d v)(hd:(x==("__debug__":Str))=false:=by decide):PD X (.Name x pos) (gC d) :=
 PD.of (t:=tC v) (x5p (X:=X.nox) hg hm r hd) fun _ H _ _ _ _ _=>⟨_,rfl,.refl _,i H⟩
noncomputable def OpD(X:Cx)(f:Value->Value->Sem Value)(g:D->D->R D):Prop:=∃r:R2,OpR X.nox f r/\∀H x y dx dy,Is X.K H dx x->Is X.K H dy y->g dx dy ≠ .no->r x y H fun z H'=>∃d,g dx dy = .ok d/\Same H H'/\Is X.K H' d z
theorem OpD.run{f:Value->Value->Sem Value}{g:D->D->R D}(h:OpD X f g){pins:List (Addr×Obj)}{s:Shared}{σ:St}{H:Hp}{x y:V}{v u:Value}{dx dy:D}(I:Inv X pins σ H s)(rx:RelV x v)(ry:RelV y u)
 (ix:Is X.K H dx x) (iy:Is X.K H dy y) (hg:g dx dy ≠ .no) {E:Value->Shared->Prop}:wpAny (model X.prog X.w) X.A (f v u) (Post X pins σ H (g dx dy)) E s:=by
 obtain⟨r,ho,hr⟩:=h
 exact wpAny_mono (ho pins s σ H x y v u _ (I.wish _) rx ry (hr H x y dx dy ix iy hg)) (fun _ _ ⟨z,H',I',rz,d,e,S,i⟩=>⟨d,z,H',e,I'.unwish,rz,S,i⟩) fun _ _ z=>False.elim z
theorem Post.bind{pins:List (Addr×Obj)}{σ:St}{H H1:Hp}{α:Type}{r:R α}{k:α->R D}{a:α}{u:Value}{s':Shared}(e:r = .ok a)(S:Same H H1)(h:Post X pins σ H1 (k a) u s'):Post X pins σ H (r>>=k) u s':=by
 obtain⟨d,v,H',e1,I,rv,S1,i⟩:=h
 exact⟨d,v,H',(R.step e k).trans e1,I,rv,S.trans S1,i⟩
theorem binD{g2:D->D->R D}{f:Value->Value->Sem Value}(ho:OpD X f g2)(ha:PD X a ga)(hb:PD X b gb){pins:List (Addr×Obj)}{s:Shared}{σ:St}{H:Hp}{F:List Addr}{Γ:G}(I:Inv X pins σ H s)(fo:FOk H F)(rl:Rel X.K H F Γ σ)(hg:gBin g2 ga gb Γ ≠ .no) :
 wpAny (model X.prog X.w) X.A (eval a X.env) (fun v s₁=>wpAny (model X.prog X.w) X.A (eval b X.env) (fun u s₂=>wpAny (model X.prog X.w) X.A (f v u) (Post X pins σ H (gBin g2 ga gb Γ)) (z1a X pins σ H (gBin g2 ga gb Γ)) s₂) (z1a X pins σ H (gBin g2 ga gb Γ)) s₁) (z1a X pins σ H (gBin g2 ga gb Γ)) s:=by
 refine wpAny_mono (ha.run pins s σ H F Γ I fo rl (R.left hg)) (fun v s1 ⟨dx,x,H1,e1,I1,r1,S1,i1⟩=>?_) fun _ _ x=>x.bind _
 have hg1:=R.next hg e1
 refine wpAny_mono (hb.run pins s1 σ H1 F Γ I1 (fo.same S1) (rl.same S1) (R.left hg1)) (fun u s2 ⟨dy,y,H2,e2,I2,r2,S2,i2⟩=>?_) fun _ _ x=>z1a.later e1 S1 (x.bind _)
 have hg2:=R.next hg1 e2
 exact thn (ho.run I2 r1 r2 (i1.same S2) i2 hg2) fun _ _ q=>Post.bind e1 S1 (Post.bind e2 S2 q)
theorem z0o{op:Operator}{g2:D->D->R D}(ho:OpD X (binaryOp op) g2)(ha:PD X a ga)(hb:PD X b gb):PD X (.BinOp a op b pos) (gBin g2 ga gb):=⟨fun pins s σ H F Γ I fo rl hg=>wpAny_BinOp (binD ho ha hb I fo rl hg)⟩
theorem z6q{op:CmpOp}{g2:D->D->R D}(ho:OpD X (compareOp op) g2)(ha:PD X a ga)(hb:PD X b gb)(hm:behindInMarks op b=false):PD X (.Compare a [op] [b] pos) (gBin g2 ga gb):=⟨fun pins s σ H F Γ I fo rl hg=>wpAny_Compare1 (binD ho ha hb I fo rl hg) hm⟩
theorem y2b{pins:List (Addr×Obj)}{σ:St}{H:Hp}{r:R D}{u:Value}{s':Shared}(h:Post X pins σ H r u s')(hg:(r>>=asB) ≠ .no):∃b H',u = .bool b/\(r>>=asB) = .ok b/\Inv X pins σ H' s'/\Same H H':=by
 obtain⟨d,v,H',e1,I,rv,S,i⟩:=h
 obtain⟨b,rfl,e2⟩:=y6n (R.next hg e1)
 rw[Is.bl_iff.mp i] at rv
 exact⟨b,H',rv,(R.step e1 _).trans e2,I,S⟩
theorem z0r{op:CmpOp}{g2:D->D->R D}(ho:OpD X (compareOp op) g2)(ha:PD X a ga)(hb:PD X b gb)(hm:behindInMarks op b=false):PTD X (.Compare a [op] [b] pos) (gT (gBin g2 ga gb)):=by
 refine⟨fun pins s σ H F Γ I fo rl hg=>?_⟩
 refine wpAny_isTrue_Compare1 (wpAny_mono (binD ho ha hb I fo rl (R.left hg)) (fun v s1 h1=>wpAny_mono h1 (fun u s2 h2=>wpAny_mono h2 (fun z s3 h3=>?_) fun _ _ x=>x.bind _) fun _ _ x=>x.bind _) fun _ _ x=>x.bind _) hm
 obtain⟨b,H',rfl,e,I',S⟩:=y2b h3 hg
 exact wpAny_truthy_bool ⟨H',e,I',S⟩
theorem z4a(ha:PD X a ga)(he:∀whole,isTrue a X.env whole=(do let v <-whole;standAt a.pos;holding [v] (truthy v)):=by intro _;rfl):PTD X a (gT ga):=by
 refine⟨fun pins s σ H F Γ I fo rl hg=>?_⟩
 refine isTrue_plain (wpAny_mono (ha.run pins s σ H F Γ I fo rl (R.left hg)) (fun v s1 h3=>?_) fun _ _ x=>x.bind _) (he _)
 obtain⟨b,H',rfl,e,I',S⟩:=y2b h3 hg
 exact wpAny_truthy_bool ⟨H',e,I',S⟩
variable {gA gB:G->R Bool}{rest:List Expr}
theorem z8h(ha:PTD X a gA):PWD X (.BoolOp .And [a] pos) gA:=by
 refine⟨fun wh pins s σ H F Γ I fo rl hg=>?_⟩
 refine isTrue_and (thn (ha.run pins s σ H F Γ I fo rl hg) fun c s1 e=>?_)
 cases c with
 | true=>exact isTrue_and_nil e
 | false=>exact e
theorem y3x(ha:PTD X a gA):PWD X (.BoolOp .Or [a] pos) gA:=by
 refine⟨fun wh pins s σ H F Γ I fo rl hg=>?_⟩
 refine isTrue_or (thn (ha.run pins s σ H F Γ I fo rl hg) fun c s1 e=>?_)
 cases c with
 | false=>exact isTrue_or_nil e
 | true=>exact e
theorem z8p(ha:PTD X a gA)(hb:PWD X (.BoolOp .And (b::rest) pos) gB):PWD X (.BoolOp .And (a::b::rest) pos) (gAnd gA gB):=by
 refine⟨fun wh pins s σ H F Γ I fo rl hg=>?_⟩
 refine isTrue_and (wpAny_mono (ha.run pins s σ H F Γ I fo rl (R.left hg)) (fun c s1 ⟨H1,e1,I1,S1⟩=>?_) fun _ _ x=>x.bind _)
 have hg1:=R.next hg e1
 cases c with
 | true=>exact wpAny_mono (hb.run wh pins s1 σ H1 F Γ I1 (fo.same S1) (rl.same S1) hg1) (fun _ _ ⟨H2,e2,I2,S2⟩=>⟨H2,(R.step e1 _).trans e2,I2,S1.trans S2⟩) fun _ _ x=>z1a.later e1 S1 x
 | false=>exact⟨H1,R.step e1 _,I1,S1⟩
theorem y5q(ha:PTD X a gA)(hb:PWD X (.BoolOp .Or (b::rest) pos) gB):PWD X (.BoolOp .Or (a::b::rest) pos) (gOr gA gB):=by
 refine⟨fun wh pins s σ H F Γ I fo rl hg=>?_⟩
 refine isTrue_or (wpAny_mono (ha.run pins s σ H F Γ I fo rl (R.left hg)) (fun c s1 ⟨H1,e1,I1,S1⟩=>?_) fun _ _ x=>x.bind _)
 have hg1:=R.next hg e1
 cases c with
 | false=>exact wpAny_mono (hb.run wh pins s1 σ H1 F Γ I1 (fo.same S1) (rl.same S1) hg1) (fun _ _ ⟨H2,e2,I2,S2⟩=>⟨H2,(R.step e1 _).trans e2,I2,S1.trans S2⟩) fun _ _ x=>z1a.later e1 S1 x
 | true=>exact⟨H1,R.step e1 _,I1,S1⟩
theorem z4l(ha:PTD X a gA):PTD X (.UnaryOp .Not a pos) (gNot gA):=⟨fun pins s σ H F Γ I fo rl hg =>
 isTrue_not (wpAny_mono (ha.run pins s σ H F Γ I fo rl (R.left hg)) (fun c s1 ⟨H1,e1,I1,S1⟩=>⟨H1,R.step e1 _,I1,S1⟩) fun _ _ x=>x.bind _)⟩
theorem z7s{op}(h:PD X a ga):PD X (.BoolOp op [a] pos) ga:=⟨fun pins s σ H F Γ I fo rl hg=>BoolOp_one (h.run pins s σ H F Γ I fo rl hg)⟩
theorem z6s(ha:PD X a ga)(hb:PD X (.BoolOp .And (b::rest) pos) gb):PD X (.BoolOp .And (a::b::rest) pos) (z4w ga gb):=by
 refine⟨fun pins s σ H F Γ I fo rl hg=>?_⟩
 refine BoolOp_and (wpAny_mono (ha.run pins s σ H F Γ I fo rl (R.left hg)) (fun v s1 ⟨d,x,H1,e1,I1,r1,S1,i1⟩=>?_) fun _ _ x=>x.bind _)
 have hg1:=R.next hg e1
 obtain⟨k,rfl,e2⟩:=y6n (R.left hg1)
 have hg2:=R.next hg1 e2
 rw[Is.bl_iff.mp i1] at r1
 cases r1
 refine wpAny_truthy_bool ?_
 cases k with
 | true=>exact wpAny_mono (hb.run pins s1 σ H1 F Γ I1 (fo.same S1) (rl.same S1) hg2) (fun _ _ q=>Post.bind e1 S1 (Post.bind e2 (.refl _) q)) fun _ _ q=>z1a.later e1 S1 (z1a.later e2 (.refl _) q)
 | false=>exact Post.bind e1 S1 (Post.bind e2 (.refl _) ⟨.bl false,.bl false,H1,rfl,I1,rfl,.refl _,Is.bl_iff.mpr rfl⟩)
theorem x9m(ha:PD X a ga)(hb:PD X (.BoolOp .Or (b::rest) pos) gb):PD X (.BoolOp .Or (a::b::rest) pos) (gOrV ga gb):=by
 refine⟨fun pins s σ H F Γ I fo rl hg=>?_⟩
 refine BoolOp_or (wpAny_mono (ha.run pins s σ H F Γ I fo rl (R.left hg)) (fun v s1 ⟨d,x,H1,e1,I1,r1,S1,i1⟩=>?_) fun _ _ x=>x.bind _)
 have hg1:=R.next hg e1
 obtain⟨k,rfl,e2⟩:=y6n (R.left hg1)
 have hg2:=R.next hg1 e2
 rw[Is.bl_iff.mp i1] at r1
 cases r1
 refine wpAny_truthy_bool ?_
 cases k with
 | false=>exact wpAny_mono (hb.run pins s1 σ H1 F Γ I1 (fo.same S1) (rl.same S1) hg2) (fun _ _ q=>Post.bind e1 S1 (Post.bind e2 (.refl _) q)) fun _ _ q=>z1a.later e1 S1 (z1a.later e2 (.refl _) q)
 | true=>exact Post.bind e1 S1 (Post.bind e2 (.refl _) ⟨.bl true,.bl true,H1,rfl,I1,rfl,.refl _,Is.bl_iff.mpr rfl⟩)
theorem x4a(ha:PD X a ga):PD X (.UnaryOp .Not a pos) (y2v ga):=by
 refine⟨fun pins s σ H F Γ I fo rl hg=>?_⟩
 refine UnaryOp_ (wpAny_mono (ha.run pins s σ H F Γ I fo rl (R.left hg)) (fun v s1 ⟨d,x,H1,e1,I1,r1,S1,i1⟩=>?_) fun _ _ x=>x.bind _)
 have hg1:=R.next hg e1
 obtain⟨k,rfl,e2⟩:=y6n (R.left hg1)
 rw[Is.bl_iff.mp i1] at r1
 cases r1
 exact not_of (wpAny_truthy_bool (Post.bind e1 S1 (Post.bind e2 (.refl _) ⟨.bl (!k),.bl (!k),H1,rfl,I1,rfl,.refl _,Is.bl_iff.mpr rfl⟩)))
theorem x7t(ha:PD X a ga):PD X (.UnaryOp .USub a pos) (gNeg ga):=by
 refine⟨fun pins s σ H F Γ I fo rl hg=>?_⟩
 refine UnaryOp_ (wpAny_mono (ha.run pins s σ H F Γ I fo rl (R.left hg)) (fun v s1 ⟨d,x,H1,e1,I1,r1,S1,i1⟩=>?_) fun _ _ x=>x.bind _)
 have hg1:=R.next hg e1
 cases d with
 | int i =>
   rw[Is.int_iff.mp i1] at r1
   obtain⟨t,rfl⟩:=r1
   exact neg_int (Post.bind e1 S1 ⟨.int (-i),.int (-i),H1,rfl,I1.tok _,⟨_,rfl⟩,.refl _,Is.int_iff.mpr rfl⟩)
 | _=>exact absurd rfl hg1
variable {es:List Expr}{gs:G->R (List D)}
theorem z0c:PAD X [] gNil:=⟨fun pos pins s σ H F Γ I fo rl hg=>Calls.spliced_nil ⟨[],[],H,rfl,I,.nil,.refl _,IsAll.nil⟩⟩
theorem z0a(ha:PD X e g)(hr:PAD X es gs)(hs:starEach (e::es) X.env=(false,eval e X.env)::starEach es X.env:=by rfl):PAD X (e::es) (gCons g gs):=by
 refine⟨fun pos pins s σ H F Γ I fo rl hg=>?_⟩
 rw[hs]
 show wpAny _ _ (spliced ((false,eval e X.env)::backTo pos (starEach es X.env))) _ _ s
 refine Calls.spliced_cons (wpAny_mono (ha.run pins s σ H F Γ I fo rl (R.left hg)) (fun u s1 ⟨d,x,H1,e1,I1,r1,S1,i1⟩=>?_) fun _ _ x=>x.bind _)
 have hg1:=R.next hg e1
 refine wpAny_mono (hr.run pos pins s1 σ H1 F Γ I1 (fo.same S1) (rl.same S1) (R.left hg1)) (fun us s2 ⟨ds,vs,H2,e2,I2,r2,S2,i2⟩=>?_) fun _ _ x=>z1a.later e1 S1 (x.bind _)
 exact⟨d::ds,x::vs,H2,(R.step e1 _).trans (R.step e2 _),I2,.cons r1 r2,S1.trans S2,IsAll.cons (i1.same S2) i2⟩
theorem z3l{n:Nat}(h:n<=1000):n<=sizeLine:=Nat.le_of_lt (y8k h)
theorem z1h{H:Hp}{p:Addr}(h:H p=none)(o:HO):Same H (upd H p o):=fun b u q=>by rw[z0s (z0y q h)];exact q
theorem z5s{x1}(h:PAD X es gs):PD X (.Tuple es x1 pos) (gTup gs):=by
 refine⟨fun pins s σ H F Γ I fo rl hg=>?_⟩
 refine wpAny_Tuple_spliced (wpAny_mono (h.run pos pins s σ H F Γ I fo rl (R.left hg)) (fun us s1 ⟨ds,vs,H1,e1,I1,r1,S1,i1⟩=>?_) fun _ _ x=>x.bind _)
 have hgx:=R.next hg e1
 obtain⟨hl,e2⟩:=R.guard_ne hgx
 have hz:vs.length<=sizeLine:=by rw[<-i1.length];exact z3l hl
 refine⟨by rw[<-r1.length];exact hz,?_⟩
 have hf:H1 s1.heap.objs.size=none:=I1.hok.fresh (Nat.le_refl _)
 have S2:=z1h hf (.tup vs)
 refine Post.bind e1 S1 ⟨.tup ds,.ref s1.heap.objs.size,upd H1 s1.heap.objs.size (.tup vs),e2,I1.laid (t':=s1.toks) (fun b u e=>Heap.get?_push_of_some _ e) (Nat.le_refl _) ?_,rfl,S2,Is.tup_iff.mpr ⟨_,vs,rfl,SqT.of z0l,i1.same S2⟩⟩
 exact⟨hz,us,r1,⟨_,Heap.get?_push_size _ rfl,rfl,_,rfl⟩⟩
theorem z1z(h:PAD X es gs):PF X (.List es pos) (gLst gs):=by
 refine⟨fun pins s σ H F Γ I fo rl hg=>?_⟩
 refine wpAny_List_spliced (wpAny_mono (h.run pos pins s σ H F Γ I fo rl (R.left hg)) (fun us s1 ⟨ds,vs,H1,e1,I1,r1,S1,i1⟩=>?_) fun _ _ x=>x.bind _)
 have hgx:=R.next hg e1
 obtain⟨⟨hl,hn⟩,e2⟩:=R.guard_ne hgx
 have hz:vs.length<=sizeLine:=by rw[<-i1.length];exact z3l hl
 refine⟨by rw[<-r1.length];exact hz,?_⟩
 have hf:H1 s1.heap.objs.size=none:=I1.hok.fresh (Nat.le_refl _)
 have S2:=z1h hf (.lst vs)
 have hH:H s1.heap.objs.size=none:=S1.free hf
 refine⟨ds,s1.heap.objs.size,vs,upd H1 s1.heap.objs.size (.lst vs),(R.step e1 _).trans e2,I1.laid (t':=s1.toks) (fun b u e=>Heap.get?_push_of_some _ e) (Nat.le_refl _) ?_,rfl,S1.trans S2,hH,z0l,?_⟩
 ·exact⟨hz,us,0,r1,Heap.get?_push_size _ rfl⟩
 ·exact IsAll.hid (((fo.same S1).same S2).cons z0l) ds vs hn (i1.same S2)
end
section
variable {X:Cx}{e a b c:Expr}{g ga gb gc:G->R D}{pos:Pos}
theorem od_I{f:Value->Value->Sem Value}{C:Int->Int->Prop}[∀i j,Decidable (C i j)]{v:Int->Int->V}{d:Int->Int->D}(hd:∀K H i j,Is K H (d i j) (v i j))(ho:OpR X.nox f (rI C v)) :
 OpD X f (fun x y=>match x,y with | .int i,.int j=>R.guard (C i j) (.ok (d i j)) | _,_=>.no):=by
 refine⟨_,ho,fun H x y dx dy ix iy hg=>?_⟩
 cases dx with
 | int i =>
   cases dy with
   | int j =>
     obtain⟨hc,e⟩:=R.guard_ne (show R.guard (C i j) (.ok (d i j)) ≠ .no from hg)
     exact⟨i,j,Is.int_iff.mp ix,Is.int_iff.mp iy,hc,d i j,e,.refl _,hd _ _ _ _⟩
   | _=>exact absurd rfl hg
 | _=>exact absurd rfl hg
theorem y9j{f:Value->Value->Sem Value}{v:Int->Int->V}{d:Int->Int->D}(hd:∀K H i j,Is K H (d i j) (v i j))(ho:OpR X.nox f (rI0 v)) :
 OpD X f (fun x y=>match x,y with | .int i,.int j=>.ok (d i j) | _,_=>.no):=by
 refine⟨_,ho,fun H x y dx dy ix iy hg=>?_⟩
 cases dx with
 | int i =>
   cases dy with
   | int j=>exact⟨i,j,Is.int_iff.mp ix,Is.int_iff.mp iy,d i j,rfl,.refl _,hd _ _ _ _⟩
   | _=>exact absurd rfl hg
 | _=>exact absurd rfl hg
theorem y2c:OpD X (binaryOp .Sub) dSub:=y9j (d:=fun i j=>.int (i-j)) (fun _ _ _ _=>Is.int_iff.mpr rfl) x7u
theorem z4d:OpD X (binaryOp .FloorDiv) dDiv:=od_I (d:=fun i j=>.int (i/j)) (fun _ _ _ _=>Is.int_iff.mpr rfl) (C:=fun i j=>0<j/\j<1073741824) x5s
theorem z2f:OpD X (binaryOp .Mod) dMod:=od_I (d:=fun i j=>.int (i%j)) (fun _ _ _ _=>Is.int_iff.mpr rfl) (C:=fun i j=>0<j) x7x
theorem x4d:OpD X (binaryOp .Pow) dPow:=od_I (d:=fun i j=>.int (i^j.toNat)) (fun _ _ _ _=>Is.int_iff.mpr rfl) (C:=fun i j=>0<=j/\j<=1000000/\i.natAbs<18446744073709551616) x7v
theorem x2e:OpD X (compareOp .Lt) dLt:=y9j (d:=fun i j=>.bl (decide (i<j))) (fun _ _ _ _=>Is.bl_iff.mpr rfl) x9o
theorem y9i:OpD X (compareOp .LtE) dLe:=y9j (d:=fun i j=>.bl (decide (i<=j))) (fun _ _ _ _=>Is.bl_iff.mpr rfl) x9p
theorem x2f:OpD X (compareOp .Gt) dGt:=y9j (d:=fun i j=>.bl (decide (j<i))) (fun _ _ _ _=>Is.bl_iff.mpr rfl) x9q
theorem x5y:OpD X (compareOp .GtE) dGe:=y9j (d:=fun i j=>.bl (decide (j<=i))) (fun _ _ _ _=>Is.bl_iff.mpr rfl) x9r
noncomputable def x9g(K:PySem.W.Frag):R2:=fun x y H Q=>∃a b xs ys,x = .ref a/\y = .ref b/\SqT K H a xs/\SqT K H b ys/\xs.length+ys.length<=sizeLine /\
 (xs=[]->Q (.ref b) H)/\(xs≠[]->ys=[]->Q (.ref a) H)/\(xs≠[]->ys≠[]->∀p,H p=none->Q (.ref p) (upd H p (.tup (xs++ys))))
theorem x5v:OpR X (binaryOp .Add) (x9g X.K):=by
 intro pins s σ H x y v u Q I rx ry h
 obtain⟨a,b,xs,ys,rfl,rfl,ha,hb,hz,q0,q1,q2⟩:=h
 by_cases hx:xs=[]
 ·cases rx
  cases ry
  obtain⟨its,r1,p1,_⟩:=I.tuple ha
  obtain⟨its2,r2,p2,_⟩:=I.tuple hb
  have hi:its=[]:=r1.nil_iff.mpr hx
  obtain⟨⟨cls,dd,data,sl⟩,ho,hc,n,hd⟩:=id p1
  obtain⟨⟨cls2,dd2,data2,sl2⟩,ho2,hc2,n2,hd2⟩:=id p2
  simp only at hc hd hc2 hd2
  subst hc hd hc2 hd2
  exact concat_meets ⟨_,ho,rfl⟩ ⟨_,ho2,rfl⟩ noFill_tuple_add seq_tuple_add PySem.F.slot_tuple_add PySem.F.entry_tuple_add (PySem.F.args_tuple_add_2 _ _)
   (tuple_addW0 a b its.toArray its2.toArray n n2 dd dd2 sl sl2 (by rw[hi];rfl)) ⟨ho,ho2,⟨.ref b,H,I,rfl,q0 hx⟩⟩
 ·exact x5t pins s σ H _ _ v u Q I rx ry ⟨a,b,xs,ys,rfl,rfl,ha,hb,hx,hz,q1 hx,q2 hx⟩
theorem z1w:OpD X (binaryOp .Add) dAdd:=by
 refine⟨_,OpR.or (x7z (X:=X.nox)) (x5v (X:=X.nox)),fun H x y dx dy ix iy hg=>?_⟩
 cases dx with
 | int i =>
   cases dy with
   | int j=>exact .inl ⟨i,j,Is.int_iff.mp ix,Is.int_iff.mp iy,.int (i+j),rfl,.refl _,Is.int_iff.mpr rfl⟩
   | _=>exact absurd rfl hg
 | tup ds =>
   cases dy with
   | tup es =>
     obtain⟨hc,e⟩:=R.guard_ne (show R.guard (ds.length+es.length<=1000) (R.ok (D.tup (ds++es)))≠R.no from hg)
     obtain⟨a,xs,rfl,h1,h2⟩:=Is.tup_iff.mp ix
     obtain⟨b,ys,rfl,h3,h4⟩:=Is.tup_iff.mp iy
     refine .inr ⟨a,b,xs,ys,rfl,rfl,h1,h3,by rw[<-h2.length,<-h4.length];exact z3l hc,fun z=>?_,fun z z'=>?_,fun z z' p hp=>?_⟩
     ·refine⟨.tup (ds++es),e,.refl _,Is.tup_iff.mpr ⟨b,ys,rfl,h3,?_⟩⟩
      have:ds=[]:=List.length_eq_zero_iff.mp (by rw[h2.length,z];rfl)
      rw[this];exact h4
     ·refine⟨.tup (ds++es),e,.refl _,Is.tup_iff.mpr ⟨a,xs,rfl,h1,?_⟩⟩
      have:es=[]:=List.length_eq_zero_iff.mp (by rw[h4.length,z'];rfl)
      rw[this,List.append_nil];exact h2
     ·have S:=z1h hp (.tup (xs++ys))
      exact⟨.tup (ds++es),e,S,Is.tup_iff.mpr ⟨p,xs++ys,rfl,SqT.of z0l,(h2.append h4).same S⟩⟩
   | _=>exact absurd rfl hg
 | _=>exact absurd rfl hg
theorem y6s(l:Addr)(items:Array Value)(n:Nat)(dd:Option Addr)(sl:Array (Option Value))(k:Int)(u:Tok)(h1:(decide (k < -(2^63))||decide (k≥2^63))=false)(hc:(items.isEmpty||k==1)=true) :
 Meets (Builtin.«tuple.__mul__» ⟨[.ref l,.int k u],[]⟩) (fun _ Q s=>s.heap.get? l=some { cls:=.type "tuple",dict:=dd,data:=.seq items n,slots:=sl }/\Q (.ok (.ret (Value.ref l))) s) :=
 .of_wp fun prog w A Q s h=>by obtain⟨hp,g,d,tk,os⟩:=s;obtain⟨hl,h⟩:=h;have f1:=AutoSeq1.idx_int;wp_walk using wpAny_loadPart' hl;refine wpAny_ite_false (by rw[h1];rfl) ?_;wp_walk using wpAny_loadPart' hl;exact⟨_,rfl,h⟩
theorem y6u(l:Addr)(items:Array Value)(n:Nat)(dd:Option Addr)(sl:Array (Option Value))(k:Int)(u:Tok)(h1:(decide (k < -(2^63))||decide (k≥2^63))=false)(hc:(items.isEmpty||k==1)=false)(hc2:(decide (k<=0)||items.isEmpty)=true) :
 Meets (Builtin.«tuple.__mul__» ⟨[.ref l,.int k u],[]⟩) (fun _ Q s=>s.heap.get? l=some { cls:=.type "tuple",dict:=dd,data:=.seq items n,slots:=sl }/\Q (.ok (.ret (Value.ref s.heap.objs.size))) { s with heap:=s.heap.push { cls:=.type "tuple",data:=.seq #[] } }) :=
 .of_wp fun prog w A Q s h=>by obtain⟨hp,g,d,tk,os⟩:=s;obtain⟨hl,h⟩:=h;have f1:=AutoSeq1.idx_int;wp_walk using wpAny_loadPart' hl;refine wpAny_ite_false (by rw[h1];rfl) ?_;wp_walk using wpAny_loadPart' hl;exact⟨_,rfl,h⟩
theorem y6t(l:Addr)(items:Array Value)(n:Nat)(dd:Option Addr)(sl:Array (Option Value))(k:Int)(u:Tok)(h1:(decide (k < -(2^63))||decide (k≥2^63))=false)(hc:(items.isEmpty||k==1)=false)(hc2:(decide (k<=0)||items.isEmpty)=false)(hc3:¬((items.size:Int)*k>(2^63-1)/8))(hc4:Builtin.Tuple.tupleTooMany ((items.size:Int)*k)=false)(hc5:¬((List.replicate k.toNat items).foldl (fun x1 x2=>x1++x2) #[]).size>sizeLine) :
 Meets (Builtin.«tuple.__mul__» ⟨[.ref l,.int k u],[]⟩) (fun _ Q s=>s.heap.get? l=some { cls:=.type "tuple",dict:=dd,data:=.seq items n,slots:=sl }/\Q (.ok (.ret (Value.ref s.heap.objs.size))) { s with heap:=s.heap.push { cls:=.type "tuple",data:=.seq ((List.replicate k.toNat items).foldl (·++·) #[]) } }) :=
 .of_wp fun prog w A Q s h=>by obtain⟨hp,g,d,tk,os⟩:=s;obtain⟨hl,h⟩:=h;have f1:=AutoSeq1.idx_int;wp_walk using wpAny_loadPart' hl;refine wpAny_ite_false (by rw[h1];rfl) ?_;wp_walk using wpAny_loadPart' hl;refine wpAny_ite_false (decide_eq_false hc3) ?_;wp_walk using wpAny_loadPart' hl;exact⟨_,rfl,h⟩
theorem z7z:fillsNumberSlot (.type "tuple") "mul"=pure false :=
 PySem.fillsNumberSlot_seq (id:="tuple.__mul__") (r:=some (.builtin "tuple.__rmul__")) F.slot_tuple_mul.lookup (by decide +kernel) F.slot_tuple_rmul.lookup (by decide +kernel)
theorem y1y:seqRepeat? (.type "tuple")=pure (some (.builtin "tuple.__mul__")):=by
 unfold seqRepeat?
 rw[PySem.seqSlot_of (T:="tuple") (name:="__mul__") (id:="tuple.__mul__") F.slot_tuple_mul.lookup (by decide +kernel),PySem.seqSlot_of (T:="tuple") (name:="__rmul__") (id:="tuple.__rmul__") F.slot_tuple_rmul.lookup (by decide +kernel)]
 rfl
theorem z9x(a:Int)(t:Tok)(l:Addr)(items:Array Value)(n:Nat)(dd:Option Addr)(sl:Array (Option Value)) :
 Meets (Builtin.«int.__rmul__» ⟨[.int a t,.ref l],[]⟩) (fun _ Q s=>s.heap.get? l=some { cls:=.type "tuple",dict:=dd,data:=.seq items n,slots:=sl }/\Q (.ok (.ret Value.notImplemented)) s) :=
 .of_wp fun prog w A Q s h=>by obtain⟨hp,g,d,tk,os⟩:=s;obtain⟨hl,h⟩:=h;wp_walk;exact⟨_,rfl,h⟩
noncomputable def x9d(K:PySem.W.Frag):R2:=fun x y H Q=>∃l k xs,x = .ref l/\y = .int k/\SqT K H l xs/\0<=k/\k<1000000/\xs.length*k.toNat<=1000 /\
 ((xs=[]∨k=1)->Q (.ref l) H)/\(xs≠[]->k≠1->∀p,H p=none->Q (.ref p) (upd H p (.tup (List.replicate k.toNat xs).flatten)))
theorem x5r:OpR X (binaryOp .Mult) (x9d X.K):=by
 intro pins s σ H x y v u Q I rx ry h
 obtain⟨l,k,xs,rfl,rfl,hH,h1,h2,hz,q0,q1⟩:=h
 cases rx
 obtain⟨t,rfl⟩:=ry
 obtain⟨its,r,p1,hz2⟩:=I.tuple hH
 have hl:its.length=xs.length:=r.length.symm
 obtain⟨⟨cls,dd,data,sl⟩,ho,hc,n,hd⟩:=id p1
 simp only at hc hd
 subst hc hd
 have hb:(decide (k < -(2^63))||decide (k≥2^63))=false:=by
  rw[decide_eq_false (by lia),decide_eq_false (by lia)];rfl
 refine wpAny_binaryOp_repeat_ref (T:="tuple") (U:="int") (by decide) ⟨_,ho,rfl⟩ (fun s'=>typeIs_int s' k t) z7z F.fills_int_mul F.slot_int_rmul y1y F.slot_int_index.lookup
  (call_meets F.slot_int_rmul (typeIs_int s k t) F.entry_int_rmul (F.args_int_rmul_2 _ _) (z9x k t l its.toArray n dd sl) ⟨ho,rfl,⟨_,ho,rfl⟩,?_⟩)
 by_cases c1:xs=[]∨k=1
 ·have hc1:(its.toArray.isEmpty||k==1)=true:=by
   rcases c1 with c | c
   ·have:its=[]:=List.length_eq_zero_iff.mp (by rw[hl,c];rfl)
    rw[this];rfl
   ·rw[c];simp
  exact call_meets F.slot_tuple_mul ⟨_,ho,rfl⟩ F.entry_tuple_mul (F.args_tuple_mul_2 _ _) (y6s l its.toArray n dd sl k t hb hc1) ⟨ho,⟨.ref l,H,I,rfl,q0 c1⟩⟩
 ·have hx:xs≠[]:=fun e=>c1 (.inl e)
  have hk1:k≠1:=fun e=>c1 (.inr e)
  have hne:its≠[]:=fun e=>hx (List.length_eq_zero_iff.mp (by rw[<-hl,e];rfl))
  have he:its.toArray.isEmpty=false:=by cases its with | nil=>exact absurd rfl hne | cons a b=>rfl
  have hc1:(its.toArray.isEmpty||k==1)=false:=by rw[he];simpa using hk1
  by_cases c2:k<=0
  ·have hk0:k=0:=by lia
   refine call_meets F.slot_tuple_mul ⟨_,ho,rfl⟩ F.entry_tuple_mul (F.args_tuple_mul_2 _ _) (y6u l its.toArray n dd sl k t hb hc1 (by rw[decide_eq_true c2];rfl)) ⟨ho,?_⟩
   have e0:(List.replicate k.toNat xs).flatten=[]:=by rw[hk0];rfl
   refine⟨.ref s.heap.objs.size,_,I.laid (t':=s.toks) (o:=.tup (List.replicate k.toNat xs).flatten) (fun b ob q=>Heap.get?_push_of_some _ q) (Nat.le_refl _) ?_,rfl,q1 hx hk1 _ (I.hok.fresh (Nat.le_refl _))⟩
   rw[e0]
   exact⟨by decide,[],.nil,⟨_,Heap.get?_push_size _ rfl,rfl,_,rfl⟩⟩
  ·have f0:∀m:Nat,List.foldl (fun x1 x2=>x1++x2) #[] (List.replicate m its.toArray)=(List.replicate m its).flatten.toArray:=fun m=>by
    have:=y2w its m []
    rw[List.nil_append] at this
    exact this
   have hlr:(List.replicate k.toNat its).flatten.length<=1000:=by rw[y9z,hl,Nat.mul_comm];exact hz
   have hsz:(its.toArray.size:Int)*k<=1000:=by
    rw[List.size_toArray,hl,show k=((k.toNat:Nat):Int) by lia]
    exact_mod_cast hz
   refine call_meets F.slot_tuple_mul ⟨_,ho,rfl⟩ F.entry_tuple_mul (F.args_tuple_mul_2 _ _) (y6t l its.toArray n dd sl k t hb hc1 (by rw[decide_eq_false c2,he];rfl) (by lia) ?_ ?_) ⟨ho,?_⟩
   ·unfold Builtin.Tuple.tupleTooMany
    have:(1000:Int)<=(sizeLine:Int):=by decide
    exact decide_eq_false (by lia)
   ·rw[f0,List.size_toArray]
    have:=z3l hlr
    lia
   ·rw[f0]
    refine⟨.ref s.heap.objs.size,_,I.laid (t':=s.toks) (o:=.tup (List.replicate k.toNat xs).flatten) (fun b ob q=>Heap.get?_push_of_some _ q) (Nat.le_refl _) ?_,rfl,q1 hx hk1 _ (I.hok.fresh (Nat.le_refl _))⟩
    exact⟨by rw[y9z,Nat.mul_comm];exact z3l hz,_,r.rep k.toNat,⟨_,Heap.get?_push_size _ rfl,rfl,_,rfl⟩⟩
theorem IsAll.rep{K:PySem.W.Frag}{H:Hp}{ds:List D}{xs:List V}(h:IsAll K H ds xs):∀n:Nat,IsAll K H (List.replicate n ds).flatten (List.replicate n xs).flatten
 | 0=>IsAll.nil
 | n+1=>by rw[List.replicate_succ,List.flatten_cons,List.replicate_succ,List.flatten_cons];exact h.append (IsAll.rep h n)
theorem z7t:OpD X (binaryOp .Mult) dMul:=by
 refine⟨_,OpR.or (x7w (X:=X.nox)) (x5r (X:=X.nox)),fun H x y dx dy ix iy hg=>?_⟩
 cases dx with
 | int i =>
   cases dy with
   | int j =>
     obtain⟨hc,e⟩:=R.guard_ne (show R.guard (z6c i j) (R.ok (D.int (i*j)))≠R.no from hg)
     refine .inl ⟨i,j,Is.int_iff.mp ix,Is.int_iff.mp iy,?_,.int (i*j),e,.refl _,Is.int_iff.mpr rfl⟩
     unfold z6c y1m at hc
     show(-(2^64)<i/\i<2^64)∨(-(2^64)<j/\j<2^64)
     lia
   | _=>exact absurd rfl hg
 | tup ds =>
   cases dy with
   | int j =>
     obtain⟨⟨hc1,hc2⟩,e⟩:=R.guard_ne (show R.guard (0<=j/\j<1000000/\ds.length*j.toNat<=1000) (R.ok (D.tup (List.replicate j.toNat ds).flatten))≠R.no from hg)
     obtain⟨a,xs,rfl,h1,h2⟩:=Is.tup_iff.mp ix
     have hxl:=h2.length
     refine .inr ⟨a,j,xs,rfl,Is.int_iff.mp iy,h1,hc1,hc2.1,by rw[<-hxl];exact hc2.2,fun c=>?_,fun z z' p hp=>?_⟩
     ·refine⟨_,e,.refl _,Is.tup_iff.mpr ⟨a,xs,rfl,h1,?_⟩⟩
      rcases c with c | c
      ·have:ds=[]:=List.length_eq_zero_iff.mp (by rw[hxl,c];rfl)
       rw[this,c]
       have e2:∀m:Nat,(List.replicate m ([]:List D)).flatten=[]:=fun m=>by simp
       rw[e2];exact IsAll.nil
      ·subst c
       show IsAll X.K H (List.replicate 1 ds).flatten xs
       rw[show(List.replicate 1 ds).flatten=ds by simp];exact h2
     ·have S:=z1h hp (.tup (List.replicate j.toNat xs).flatten)
      exact⟨_,e,S,Is.tup_iff.mpr ⟨p,_,rfl,SqT.of z0l,(h2.rep _).same S⟩⟩
   | _=>exact absurd rfl hg
 | _=>exact absurd rfl hg
mutual
noncomputable def D.py:D->PyData
 | .non=>.none
 | .bl b=>.bool b
 | .int i=>.int i
 | .str x=>.str x
 | .tup ds=>.tuple (D.pys ds)
 | .lst ds=>.list (D.pys ds)
 | .dct=>.dict []
 | .exc _=>.dict []
noncomputable def D.pys:List D->List PyData
 | []=>[]
 | d::ds=>d.py::D.pys ds
end
mutual
theorem z5v:∀(n:Nat) (d:D),D.lay n d=true->d.py.canLay0=true/\d.py.depth<=n
 | n,.non,_=>by simp[D.py,PyData.canLay0,PyData.depth]
 | n,.bl _,_=>by simp[D.py,PyData.canLay0,PyData.depth]
 | n,.int _,_=>by simp[D.py,PyData.canLay0,PyData.depth]
 | n,.str x,h=>by
   have h':PyData.strOk x=true:=by have:=h;rw[z2m] at this;exact this
   simp[D.py,PyData.canLay0,PyData.depth,h']
 | 0,.tup ds,h=>by simp[D.lay] at h
 | 0,.lst ds,h=>by simp[D.lay] at h
 | n+1,.tup ds,h=>by
   have q:=lays_py n ds (by simpa [D.lay] using h)
   constructor
   ·simpa [D.py,PyData.canLay0] using q.1
   ·have:=q.2
    simp only[D.py,PyData.depth];lia
 | n+1,.lst ds,h=>by
   have q:=lays_py n ds (by simpa [D.lay] using h)
   constructor
   ·simpa [D.py,PyData.canLay0] using q.1
   ·have:=q.2
    simp only[D.py,PyData.depth];lia
 | n,.dct,h=>by cases n<;>simp[D.lay] at h
 | n,.exc _,h=>by cases n<;>simp[D.lay] at h
theorem lays_py:∀(n:Nat) (ds:List D),D.lays n ds=true->PyData.canLayAll0 (D.pys ds)=true/\PyData.depthAll (D.pys ds)<=n
 | n,[],_=>by simp[D.pys,PyData.canLayAll0,PyData.depthAll]
 | n,d::ds,h=>by
   have h':D.lay n d=true/\D.lays n ds=true:=by simpa [D.lays] using h
   have q1:=z5v n d h'.1
   have q2:=lays_py n ds h'.2
   constructor
   ·simp[D.pys,PyData.canLayAll0,q1.1,q2.1]
   ·have:=q1.2;have:=q2.2
    simp only[D.pys,PyData.depthAll];lia
end
mutual
theorem z2z{pins:List (Addr×Obj)}{σ:St}{H:Hp}{s:Shared}(I:Inv X pins σ H s):∀(n:Nat) (d:D) (v:V) (u:Value),D.lay n d=true->Is X.K H d v->RelV v u->∃as,Reads s.heap u d.py as
 | _,.non,v,u,_,i,r=>by
   rw[Is.non_iff.mp i] at r;cases (show u=Value.none from r)
   exact⟨_,.none⟩
 | _,.bl b,v,u,_,i,r=>by
   rw[Is.bl_iff.mp i] at r;cases (show u=Value.bool b from r)
   exact⟨_,.bool b⟩
 | _,.int k,v,u,_,i,r=>by
   rw[Is.int_iff.mp i] at r
   obtain⟨t,rfl⟩:=(show ∃t,u=Value.int k t from r)
   exact⟨_,.int k t⟩
 | _,.str x,v,u,_,i,r=>by
   rw[Is.str_iff.mp i] at r
   obtain⟨t,rfl⟩:=(show ∃t,u=Value.str x t from r)
   exact⟨_,.str x t⟩
 | 0,.tup ds,v,u,h,_,_=>by simp[D.lay] at h
 | 0,.lst ds,v,u,h,_,_=>by simp[D.lay] at h
 | n+1,.tup ds,v,u,h,i,r=>by
   obtain⟨a,xs,rfl,h1,h2⟩:=Is.tup_iff.mp i
   cases (show u=Value.ref a from r)
   obtain⟨its,rv,⟨o,ho,hc,m,hd⟩,_⟩:=I.tuple h1
   obtain⟨as,ra⟩:=readsAll_of I n ds xs its (by simpa [D.lay] using h) h2 rv
   exact⟨as,by unfold D.py;exact .tuple ho hc hd (by simpa using ra)⟩
 | n+1,.lst ds,v,u,h,i,r=>by
   obtain⟨a,xs,rfl,h1,h2⟩:=Is.lst_iff.mp i
   cases (show u=Value.ref a from r)
   obtain⟨its,rv,⟨o,m,ho,hc,_,hd⟩,_⟩:=I.list h1
   obtain⟨as,ra⟩:=readsAll_of I n ds xs its (by simpa [D.lay] using h) h2 rv
   exact⟨a::as,by unfold D.py;exact .list ho hc hd (by simpa using ra)⟩
 | n,.dct,v,u,h,_,_=>by cases n<;>simp[D.lay] at h
 | n,.exc _,v,u,h,_,_=>by cases n<;>simp[D.lay] at h
theorem readsAll_of{pins:List (Addr×Obj)}{σ:St}{H:Hp}{s:Shared}(I:Inv X pins σ H s):∀(n:Nat) (ds:List D) (xs:List V) (us:List Value),D.lays n ds=true->IsAll X.K H ds xs->Vals xs us->∃as,ReadsAll s.heap us (D.pys ds) as
 | n,[],xs,us,_,i,r=>by
   rw[IsAll.nil_iff.mp i] at r
   cases r
   exact⟨_,by unfold D.pys;exact .nil⟩
 | n,d::ds,xs,us,h,i,r=>by
   obtain⟨x,r',rfl,h1,h2⟩:=IsAll.cons_iff.mp i
   have h':D.lay n d=true/\D.lays n ds=true:=by simpa [D.lays] using h
   cases r with
   | cons q1 q2 =>
     obtain⟨as,ra⟩:=z2z I n d x _ h'.1 h1 q1
     obtain⟨bs,rb⟩:=readsAll_of I n ds r' _ h'.2 h2 q2
     exact⟨as++bs,by unfold D.pys;exact .cons ra rb⟩
end
mutual
theorem y6j:∀x y:D,eqD x y=PyData.eqv x.py y.py
 | .non,y=>by cases y<;>simp[eqD,D.py,PyData.eqv]
 | .bl _,y=>by cases y<;>simp[eqD,D.py,PyData.eqv]
 | .int _,y=>by cases y<;>simp[eqD,D.py,PyData.eqv]
 | .str _,y=>by cases y<;>simp[eqD,D.py,PyData.eqv]
 | .dct,y=>by cases y<;>simp[eqD,D.py,PyData.eqv]
 | .exc _,y=>by cases y<;>simp[eqD,D.py,PyData.eqv]
 | .tup xs,y=>by
   cases y with
   | tup ys=>rw[eqD,D.py,D.py,PyData.eqv,eqDs_py xs ys]
   | _=>simp[eqD,D.py,PyData.eqv]
 | .lst xs,y=>by
   cases y with
   | lst ys=>rw[eqD,D.py,D.py,PyData.eqv,eqDs_py xs ys]
   | _=>simp[eqD,D.py,PyData.eqv]
theorem eqDs_py:∀xs ys:List D,eqDs xs ys=PyData.eqvAll (D.pys xs) (D.pys ys)
 | [],[]=>by simp[eqDs,D.pys,PyData.eqvAll]
 | [],_::_=>by simp[eqDs,D.pys,PyData.eqvAll]
 | _::_,[]=>by simp[eqDs,D.pys,PyData.eqvAll]
 | x::xs,y::ys=>by rw[eqDs,D.pys,D.pys,PyData.eqvAll,y6j x y,eqDs_py xs ys]
end
theorem z6b(hu:X.A.units+64<cLine):OpD X (compareOp .Eq) dEq:=by
 refine⟨fun x y H Q=>∃dx dy,Is X.K H dx x/\Is X.K H dy y/\D.lay 40 dx=true/\D.lay 40 dy=true/\Q (.bl (eqD dx dy)) H,?_,fun H x y dx dy ix iy hg=>?_⟩
 ·intro pins s σ H x y v u Q I rx ry h
  obtain⟨dx,dy,ix,iy,l1,l2,q⟩:=h
  obtain⟨as,ra⟩:=z2z I 40 dx x v l1 ix rx
  obtain⟨bs,rb⟩:=z2z I 40 dy y u l2 iy ry
  have p1:=z5v 40 dx l1
  have p2:=z5v 40 dy l2
  have hu':X.A.units+64<cLine:=hu
  refine PySem.SeqAt.compareEq_reads ra rb p1.1 p2.1 (show X.A.units+min dx.py.depth dy.py.depth<cLine by lia) ⟨.bl (eqD dx dy),H,I,by rw[y6j];rfl,q⟩
 ·obtain⟨⟨l1,l2⟩,e⟩:=R.guard_ne hg
  exact⟨dx,dy,ix,iy,l1,l2,.bl (eqD dx dy),e,.refl _,Is.bl_iff.mpr rfl⟩
theorem y1e(hu:X.A.units+64<cLine):OpD X (compareOp .NotEq) dNe:=by
 refine⟨fun x y H Q=>∃dx dy,Is X.K H dx x/\Is X.K H dy y/\D.lay 40 dx=true/\D.lay 40 dy=true/\Q (.bl (!eqD dx dy)) H,?_,fun H x y dx dy ix iy hg=>?_⟩
 ·intro pins s σ H x y v u Q I rx ry h
  obtain⟨dx,dy,ix,iy,l1,l2,q⟩:=h
  obtain⟨as,ra⟩:=z2z I 40 dx x v l1 ix rx
  obtain⟨bs,rb⟩:=z2z I 40 dy y u l2 iy ry
  have p1:=z5v 40 dx l1
  have p2:=z5v 40 dy l2
  have hu':X.A.units+64<cLine:=hu
  refine PySem.SeqAt.compareNe_reads ra rb p1.1 p2.1 (show X.A.units+min dx.py.depth dy.py.depth<cLine by lia) ⟨.bl (!eqD dx dy),H,I,by rw[y6j];rfl,q⟩
 ·obtain⟨⟨l1,l2⟩,e⟩:=R.guard_ne hg
  exact⟨dx,dy,ix,iy,l1,l2,.bl (!eqD dx dy),e,.refl _,Is.bl_iff.mpr rfl⟩
theorem IsAll.atI{K:PySem.W.Frag}{H:Hp}{ds:List D}{xs:List V}{i:Int}{d:D}(h:IsAll K H ds xs)(e:atI ds i=some d):∃x,L2.atI xs i=some x/\Is K H d x:=by
 unfold L2.atI
 unfold L3.atI at e
 rw[<-h.length]
 show ∃x,((L3.ixN ds.length i).bind fun j=>xs[j]?)=some x/\Is K H d x
 cases q:L3.ixN ds.length i with
 | none=>rw[q] at e;cases e
 | some j =>
   rw[q] at e
   exact h.get (by simpa using e)
theorem z2c(ha:PD X a ga)(hb:PD X b gb)(hs:y5i b:=by intro _ _;rfl):PD X (.Subscript a b pos) (gBin dIx ga gb):=by
 refine⟨fun pins s σ H F Γ I fo rl hg=>?_⟩
 refine Subscript_ (wpAny_mono (ha.run pins s σ H F Γ I fo rl (R.left hg)) (fun v s1 ⟨dx,x,H1,e1,I1,r1,S1,i1⟩=>?_) fun _ _ x=>x.bind _)
 have hg1:=R.next hg e1
 refine wpAny_mono (hb.run pins s1 σ H1 F Γ I1 (fo.same S1) (rl.same S1) (R.left hg1)) (fun u s2 ⟨dy,y,H2,e2,I2,r2,S2,i2⟩=>?_) fun _ _ x=>z1a.later e1 S1 (x.bind _)
 have hg2:=R.next hg1 e2
 have i1':=i1.same S2
 have fin:∀(d:D) (z:V),dIx dx dy = .ok d->Is X.K H2 d z->∀(w':Value) (s':Shared),EP X.nox pins σ (fun z' H'=>z'=z/\H'=H2) w' s'->Post X pins σ H (gBin dIx ga gb Γ) w' s':=fun d z ed iz w' s' ⟨z',H',I',rz,ez,eH⟩=>by
  subst ez eH
  exact Post.bind e1 S1 (Post.bind e2 S2 ⟨d,z',H',ed,I'.unwish,rz,.refl _,iz⟩)
 cases dx with
 | tup ds =>
   cases dy with
   | int i =>
     obtain⟨p,xs,rfl,h1,h2⟩:=Is.tup_iff.mp i1'
     cases q:atI ds i with
     | none=>exact absurd (show dIx (.tup ds) (.int i) = .no by simp only[dIx,q]) hg2
     | some d =>
       obtain⟨z,ez,iz⟩:=h2.atI q
       exact wpAny_mono (x4k (X:=X.nox) a b pins s2 σ H2 _ y v u _ (I2.wish _) r1 r2 ⟨p,xs,i,z,rfl,Is.int_iff.mp i2,h1,ez,rfl,rfl⟩ (hs _ _)) (fun w' s' h=>fin d z (by show dIx (.tup ds) (.int i) = .ok d;simp only[dIx,q]) iz w' s' h) fun _ _ z=>False.elim z
   | _=>exact absurd rfl hg2
 | lst ds =>
   cases dy with
   | int i =>
     obtain⟨p,xs,rfl,h1,h2⟩:=Is.lst_iff.mp i1'
     cases q:atI ds i with
     | none=>exact absurd (show dIx (.lst ds) (.int i) = .no by simp only[dIx,q]) hg2
     | some d =>
       obtain⟨z,ez,iz⟩:=h2.atI q
       exact wpAny_mono (x0e (X:=X.nox) a b pins s2 σ H2 _ y v u _ (I2.wish _) r1 r2 ⟨p,xs,i,z,rfl,Is.int_iff.mp i2,h1,ez,rfl,rfl⟩ (hs _ _)) (fun w' s' h=>fin d z (by show dIx (.lst ds) (.int i) = .ok d;simp only[dIx,q]) iz w' s' h) fun _ _ z=>False.elim z
   | _=>exact absurd rfl hg2
 | _=>exact absurd rfl hg2
variable {x:Str}{p:Pos}{es:List Expr}{gs:G->R (List D)}{bid T:String}
noncomputable def z7o(X:Cx)(f:Value)(g:List D->R D):Prop:=∃r:List V->Hp->VK->Prop,z5i X.nox f r/\∀H xs ds,IsAll X.K H ds xs->g ds ≠ .no->r xs H fun z H'=>∃d,g ds = .ok d/\Same H H'/\Is X.K H' d z
theorem z7o.run{f:Value}{g:List D->R D}(h:z7o X f g){pins:List (Addr×Obj)}{s:Shared}{σ:St}{H:Hp}{xs:List V}{us:List Value}{ds:List D}(I:Inv X pins σ H s)(r:Vals xs us)(i:IsAll X.K H ds xs)(hg:g ds ≠ .no){E:Value->Shared->Prop} :
 wpAny (model X.prog X.w) X.A (call f us) (Post X pins σ H (g ds)) E s:=by
 obtain⟨r',ho,hr⟩:=h
 exact wpAny_mono (ho pins s σ H xs us _ (I.wish _) r (hr H xs ds i hg)) (fun _ _ ⟨z,H',I',rz,d,e,S,i⟩=>⟨d,z,H',e,I'.unwish,rz,S,i⟩) fun _ _ z=>False.elim z
theorem z0z{g:List D->R D}(hc:z7o X (.builtin bid) g)(hm:X.mg x=none)(hv:bootBuiltins x=some (.builtin bid))(ha:PAD X (e::es) gs)(hg:Gl X x:=by rfl)(hn:x≠"__name__":=by decide)(hdb:(x==("__debug__":Str))=false:=by decide)
 (he:starEach (e::es) X.env=(false,eval e X.env)::starEach es X.env:=by rfl) (hpl:(backTo pos (starEach es X.env)).any (·.1)=false:=by rfl):PD X (.Call (.Name x p) (e::es) [] pos) (z0i g gs):=by
 refine⟨fun pins s σ H F Γ I fo rl hgg=>?_⟩
 refine wpAny_Call_Name_kw (z2t I hg hm hv ?_ hn hdb)
 refine PyProof.Rows.callWith_builtin1 (wpAny_mono (ha.run pos pins s σ H F Γ I fo rl (R.left hgg)) (fun us s1 ⟨ds,vs,H1,e1,I1,r1,S1,i1⟩=>?_) fun _ _ x=>x.bind _) he hpl
 exact thn (hc.run I1 r1 i1 (R.next hgg e1)) fun _ _ q=>Post.bind e1 S1 q
theorem z1d{g:List D->R D}(hc:z7o X (.type T) g)(hm:X.mg x=none)(hv:bootBuiltins x=some (.type T))(ha:PAD X (e::es) gs)(hg:Gl X x:=by rfl)(hn:x≠"__name__":=by decide)(hdb:(x==("__debug__":Str))=false:=by decide)
 (he:starEach (e::es) X.env=(false,eval e X.env)::starEach es X.env:=by rfl) (hpl:(backTo pos (starEach es X.env)).any (·.1)=false:=by rfl):PD X (.Call (.Name x p) (e::es) [] pos) (z0i g gs):=by
 refine⟨fun pins s σ H F Γ I fo rl hgg=>?_⟩
 refine wpAny_Call_Name_kw (z2t I hg hm hv ?_ hn hdb)
 refine PyProof.Rows.callWith_type1 (wpAny_mono (ha.run pos pins s σ H F Γ I fo rl (R.left hgg)) (fun us s1 ⟨ds,vs,H1,e1,I1,r1,S1,i1⟩=>?_) fun _ _ x=>x.bind _) he hpl
 exact thn (hc.run I1 r1 i1 (R.next hgg e1)) fun _ _ q=>Post.bind e1 S1 q
theorem z4t{K:PySem.W.Frag}{H:Hp}{d:D}{xs:List V}(h:IsAll K H [d] xs):∃v,xs=[v]/\Is K H d v:=by
 obtain⟨x,r,rfl,h1,h2⟩:=IsAll.cons_iff.mp h
 rw[IsAll.nil_iff.mp h2]
 exact⟨x,rfl,h1⟩
theorem x4m{K:PySem.W.Frag}{H:Hp}{d d':D}{xs:List V}(h:IsAll K H [d,d'] xs):∃v v',xs=[v,v']/\Is K H d v/\Is K H d' v':=by
 obtain⟨x,r,rfl,h1,h2⟩:=IsAll.cons_iff.mp h
 obtain⟨v,rfl,h3⟩:=z4t h2
 exact⟨x,v,rfl,h1,h3⟩
theorem z4u:z7o X (.builtin "len") dLen:=by
 refine⟨_,y3l (X:=X.nox),fun H xs ds i hg=>?_⟩
 unfold dLen at hg
 split at hg
 ·rename_i ys
  obtain⟨v,rfl,h⟩:=z4t i
  obtain⟨a,zs,rfl,h1,h2⟩:=Is.tup_iff.mp h
  exact⟨a,zs,rfl,.inr h1,.int ys.length,rfl,.refl _,Is.int_iff.mpr (by rw[h2.length])⟩
 ·rename_i ys
  obtain⟨v,rfl,h⟩:=z4t i
  obtain⟨a,zs,rfl,h1,h2⟩:=Is.lst_iff.mp h
  exact⟨a,zs,rfl,.inl h1,.int ys.length,rfl,.refl _,Is.int_iff.mpr (by rw[h2.length])⟩
 ·exact absurd rfl hg
theorem z3n:z7o X (.type "tuple") z2v:=by
 refine⟨_,y1o (X:=X.nox),fun H xs ds i hg=>?_⟩
 unfold z2v at hg
 split at hg
 ·rename_i ys
  obtain⟨v,rfl,h⟩:=z4t i
  obtain⟨a,zs,rfl,h1,h2⟩:=Is.tup_iff.mp h
  exact⟨a,zs,rfl,.inr ⟨h1,.tup ys,rfl,.refl _,h⟩⟩
 ·rename_i ys
  obtain⟨v,rfl,h⟩:=z4t i
  obtain⟨a,zs,rfl,h1,h2⟩:=Is.lst_iff.mp h
  refine⟨a,zs,rfl,.inl ⟨h1,fun l hl=>?_⟩⟩
  have S:=z1h hl (.tup zs)
  exact⟨.tup ys,rfl,S,Is.tup_iff.mpr ⟨l,zs,rfl,SqT.of z0l,h2.same S⟩⟩
 ·exact absurd rfl hg
theorem x4p(hc:X.calm=true):z7o X (.builtin "min") dMin:=by
 refine⟨_,x1c (X:=X.nox) hc,fun H xs ds i hg=>?_⟩
 unfold dMin at hg
 split at hg
 ·rename_i i' j'
  obtain⟨v,v',rfl,h,h'⟩:=x4m i
  exact⟨i',j',by rw[Is.int_iff.mp h,Is.int_iff.mp h'],_,rfl,.refl _,Is.int_iff.mpr rfl⟩
 ·exact absurd rfl hg
theorem IsAll.bools_eq{K:PySem.W.Frag}{H:Hp}:∀{ns:List Bool} {xs:List V},IsAll K H (ns.map D.bl) xs->xs=ns.map V.bl
 | [],xs,h=>IsAll.nil_iff.mp h
 | n::ns,xs,h=>by
   obtain⟨x,r,rfl,hx,tr⟩:=IsAll.cons_iff.mp h
   rw[Is.bl_iff.mp hx,IsAll.bools_eq tr];rfl
theorem z9w:∀{bs:List Bool} {us:List Value} {i:Nat} {v:Value},Vals (bs.map V.bl) us->us[i]? = some v->∃b,bs[i]? = some b/\v = .bool b
 | [],us,i,v,r,e=>by cases r;simp at e
 | b::bs,us,0,v,r,e=>by
   cases r with
   | cons r1 r2=>simp at e;subst e;exact⟨b,rfl,r1⟩
 | b::bs,us,i+1,v,r,e=>by
   cases r with
   | cons r1 r2 =>
     obtain⟨b',e1,e2⟩:=z9w (i:=i) r2 (by simpa using e)
     exact⟨b',by simpa using e1,e2⟩
theorem y3q:∀bs:List Bool,((List.range bs.length).any fun i=>(bs[i]?).getD false)=bs.any (fun b=>b)
 | []=>rfl
 | b::bs=>by
   rw[List.length_cons,List.range_succ_eq_map,List.any_cons,List.any_map,List.any_cons,<-y3q bs]
   rfl
theorem x1h(hc:X.calm=true):z5i X (.builtin "any") (fun xs H Q=>∃(a:Addr) (bs:List Bool),xs=[.ref a]/\SqL X.K H a (bs.map V.bl)/\Q (.bl (bs.any (fun b=>b))) H):=by
 intro pins s σ H xs us Q I r h
 obtain⟨a,bs,rfl,hq,q⟩:=h
 obtain⟨u,rfl,ru⟩:=y0v r
 cases ru
 obtain⟨its,rv,pl,_⟩:=I.list hq
 have hl:=pl.isList
 have hlt:a<s.heap.objs.size:=by obtain⟨_,e,_⟩:=hl;exact Heap.lt_size e
 have hlen:its.length=bs.length:=by rw[<-rv.length,List.length_map]
 refine call_any_walk (wpAny_pyIter_list hl ?_)
 refine⟨s.heap.objs.size,[s.heap.objs.size,a],[s.heap.objs.size],its.toArray.size,_,_,fun i=>(bs[i]?).getD false,rfl,Walks.list (A:=X.A.in1) (I.ok.hd hc) _ a (Nat.ne_of_lt hlt) its.toArray,
  ⟨⟨_,Heap.get?_push_size _ rfl,rfl,rfl⟩,hl.push _⟩,fun i v s' Q' E' hP hQ=>?_,fun h' tk hk=>?_⟩
 ·obtain⟨b,e,rfl⟩:=z9w rv (i:=i) (v:=v) (by simpa using hP)
  simp only[e,Option.getD_some] at hQ
  exact wpAny_truthy_bool hQ
 ·have e:((List.range its.toArray.size).any fun i=>(bs[i]?).getD false)=bs.any (fun b=>b):=by
   rw[List.size_toArray,hlen];exact y3q bs
  refine⟨.bl (bs.any (fun b=>b)),H,I.kept (fun b x ex=>hk b x (fun hm=>by rw[List.mem_singleton.mp hm] at ex;exact Nat.lt_irrefl _ (Heap.lt_size ex)) (Heap.get?_push_of_some _ ex)),by rw[e];rfl,q⟩
theorem x8v(hc:X.calm=true):z7o X (.builtin "any") dAny:=by
 refine⟨_,x1h (X:=X.nox) hc,fun H xs ds i hg=>?_⟩
 unfold dAny at hg
 split at hg
 ·rename_i ys
  obtain⟨v,rfl,h⟩:=z4t i
  obtain⟨a,zs,rfl,h1,h2⟩:=Is.lst_iff.mp h
  cases q:bools? ys with
  | none=>rw[q] at hg;exact absurd rfl hg
  | some ns =>
    have:=bools?_some q
    subst this
    rw[h2.bools_eq] at h1
    exact⟨a,ns,rfl,h1,.bl (ns.any (fun b=>b)),by show dAny [.lst (ns.map D.bl)]=_;simp only[dAny,q],.refl _,Is.bl_iff.mpr rfl⟩
 ·exact absurd rfl hg
end
noncomputable def CXE(P:Program)(w:World):CXT:=fun outer H s E x s'=>∃(e C T:Addr) (oe oT:Obj) (vs ts:Array Value) (H':Hp),x = .ref e/\s'.os=s.os/\AllBare s'.gens/\Un (frs outer) [] H H' s.heap s'.heap/\HOk P w H' s'.heap /\
 H' e=none/\s.heap.get? e=none/\s'.heap.get? e=some oe/\oe.cls = .ref C/\oe.data = .fields vs/\(∃a0,vs[0]? = some a0)/\vs[1]? = some (.ref T)/\H' T=none/\s.heap.get? T=none/\T≠e/\s'.heap.get? T=some oT/\oT.data = .fields ts/\ts[3]? = some .none/\E (.ref C) none H'
noncomputable def spD(K:PySem.W.Frag)(mg:Str->Option Value)(φ:List D->R D):Sp:=fun vs H Q E=>∃ds,IsAll K H ds vs/\φ ds ≠ .no/\(∀d v H',φ ds = .ok d->Same H H'->Is K H' d v->Q v H')/\(∀c C H',φ ds = .er c->mg c.nm=some (.ref C)->Same H H'->E (.ref C) none H')
noncomputable def spF(K:PySem.W.Frag)(mg:Str->Option Value)(φ:List D->R (List D)):Sp:=fun vs H Q E=>∃ds,IsAll K H ds vs/\φ ds ≠ .no/\(∀es a xs H',φ ds = .ok es->Same H H'->H a=none->H' a=some (.lst xs)->IsAll K H' es xs->Q (.ref a) H')/\(∀c C H',φ ds = .er c->mg c.nm=some (.ref C)->Same H H'->E (.ref C) none H')
structure FnD (P:Program) (w:World) (K:PySem.W.Frag) (mg:Str->Option Value) (base:Heap) (k:Nat) (f:Addr) (fd:FuncData) (ps:List Str) (φ:List D->R D):Prop where
 ok:FnOk P w K mg base (CXE P w) k f fd ps (spD K mg φ)
 binds:z6h K fd ps []
 kp:PySem.W.keepIn K (.ref f)=true
structure FnF (P:Program) (w:World) (K:PySem.W.Frag) (mg:Str->Option Value) (base:Heap) (k:Nat) (f:Addr) (fd:FuncData) (ps:List Str) (φ:List D->R (List D)):Prop where
 ok:FnOk P w K mg base (CXE P w) k f fd ps (spF K mg φ)
 binds:z6h K fd ps []
 kp:PySem.W.keepIn K (.ref f)=true
theorem FnD.mono{P:Program}{w:World}{K:PySem.W.Frag}{mg:Str->Option Value}{base:Heap}{j k:Nat}{f:Addr}{fd:FuncData}{ps:List Str}{φ:List D->R D}(F:FnD P w K mg base j f fd ps φ)(h:j<=k):FnD P w K mg base k f fd ps φ:=⟨F.ok.mono h,F.binds,F.kp⟩
section
variable {X:Cx}{e a b c:Expr}{g ga gb gc:G->R D}{pos p:Pos}{x:Str}{es:List Expr}{gs:G->R (List D)}
theorem _root_.L2.Inv.gone{pins:List (Addr×Obj)}{σ:St}{H:Hp}{s:Shared}{q:Addr}(I:Inv X pins σ H s)(hex:X.ex=[])(hq:s.heap.get? q=none):X.s₀.heap.get? q=none/\q≠X.env.locals/\(∀y k,X.env.cells.lookup y=some k->k≠q)/\(∀p∈X.pn++pins,p.1≠q):=by
 refine⟨?_,fun z=>?_,fun y k ek z=>?_,fun p hp z=>?_⟩
 ·cases e0:X.s₀.heap.get? q with
  | none=>rfl
  | some o =>
    obtain⟨o',e1⟩:=I.base.there q o e0 (by rw[hex];simp)
    rw[hq] at e1;cases e1
 ·obtain⟨m,⟨o,_,_,ho,_⟩,_⟩:=I.loc
  rw[<-z,hq] at ho;cases ho
 ·obtain⟨v,o,ho,_⟩:=I.cell y k ek
  rw[z,hq] at ho;cases ho
 ·have ho:=(I.pin p hp).1
  rw[z,hq] at ho;cases ho
theorem z7w{pins:List (Addr×Obj)}{σ:St}{H:Hp}{s s':Shared}{u:Value}{r:R D}{E:XK}(hex:X.ex=[]∨∀C H',¬E (.ref C) none H')(I:Inv X pins σ H s)(h:CXE X.prog X.w X.stack H s E u s')
 (hE:∀C H',E (.ref C) none H'->∃c,r = .er c/\X.mg c.nm=some (.ref C)/\Same H H'):z1a X pins σ H r u s':=by
 obtain⟨e,C,T,oe,oT,vs,ts,H',rfl,os,bare,un,hok,he0,he1,he2,he3,he4,he5,hv,hT0,hT1,hT2,hT3,hT4,hT5,hE'⟩:=h
 have hex:X.ex=[]:=hex.resolve_right fun z=>z C H' hE'
 obtain⟨c,er,hm,S⟩:=hE C H' hE'
 obtain⟨hh,gg,dd,tt,os'⟩:=s'
 obtain rfl:os'=s.os:=os
 have I':Inv X pins σ H' { s with heap:=hh,gens:=gg,drawn:=dd,toks:=tt }:=I.call (h':=hh) (g':=gg) (d':=dd) (t':=tt) (ch:=[]) un hok bare (fun b z=>absurd z (by simp))
 have fr:∀q:Addr,s.heap.get? q=none->X.s₀.heap.get? q=none/\q≠X.env.locals/\(∀y k,X.env.cells.lookup y=some k->k≠q)/\(∀p∈X.pn++pins,p.1≠q):=fun q hq=>I.gone hex hq
 obtain⟨f1,f2,f3,f4⟩:=fr e he1
 obtain⟨g1,g2,g3,g4⟩:=fr T hT1
 exact⟨c,H',er,S,I',e,C,oe,vs,rfl,hm,he0,f1,f2,f3,f4,he2,he3,he4,he5,.inr ⟨T,oT,ts,hv,hT0,g1,g2,g3,g4,hT2,hT3,hT4,.inl hT5⟩⟩
theorem runD{k:Nat}{f:Addr}{fd:FuncData}{ps:List Str}{φ:List D->R D}(Fn:FnD X.prog X.w X.K X.mg X.base k f fd ps φ)(hr:Room k X.A){pins:List (Addr×Obj)}{σ:St}{H:Hp}{s:Shared}{us:List Value}{vs:List V}{ds:List D}
 (I:Inv X pins σ H s) (r:Vals vs us) (i:IsAll X.K H ds vs) (hg:φ ds ≠ .no) (hx:X.ex=[]∨∀c,φ ds ≠ .er c):wpAny (model X.prog X.w) X.A (call (.ref f) us) (Post X pins σ H (φ ds)) (z1a X pins σ H (φ ds)) s:=by
 have hsp:spD X.K X.mg φ vs H (fun v H'=>∃d,φ ds = .ok d/\Same H H'/\Is X.K H' d v) (fun C' _ H'=>∃c C,C' = .ref C/\φ ds = .er c/\X.mg c.nm=some (.ref C)/\Same H H') :=
  ⟨ds,i,hg,fun d v H' e S iv=>⟨d,e,S,iv⟩,fun c C H' e hm S=>⟨c,C,rfl,e,hm,S⟩⟩
 have hl:us.length=ps.length:=by rw[<-r.length];exact Fn.ok.len _ _ _ _ hsp
 have hb:=Fn.binds s us I.kIn (by rw[List.append_nil];exact hl)
 rw[List.append_nil] at hb
 refine wpAny_call (codeAny_mono (Fn.ok.run X.A X.stack s H ⟨us,[]⟩ us vs _ _ hr I.env0 hb r hsp) fun r' s' hq=>?_)
 cases r' with
 | error u =>
   refine z7w (E:=fun C' _ H'=>∃c C,C' = .ref C/\φ ds = .er c/\X.mg c.nm=some (.ref C)/\Same H H') (hx.imp_right fun z C H' ⟨c,_,_,q,_⟩=>z c q) I hq fun C H' hE=>?_
   obtain⟨c,C',e,h1,h2,h3⟩:=hE
   cases e
   exact⟨c,h1,h2,h3⟩
 | ok fl =>
   cases fl with
   | ret u =>
     obtain⟨v,H',I',rv,d,e,S,iv⟩:=I.after hq
     exact⟨d,v,H',e,I',rv,S,iv⟩
   | next=>exact False.elim hq
   | brk=>exact False.elim hq
   | cont=>exact False.elim hq
theorem z0n{k:Nat}{f:Addr}{fd:FuncData}{ps:List Str}{φ:List D->R D}(Fn:FnD X.prog X.w X.K X.mg X.base k f fd ps φ)(hr:Room k X.A)(hm:X.mg x=some (.ref f))(ha:PAD X (e::es) gs)(hex:X.ex=[]:=by rfl)(hg:Gl X x:=by rfl)(hdb:(x==("__debug__":Str))=false:=by decide)
 (he:starEach (e::es) X.env=(false,eval e X.env)::starEach es X.env:=by rfl) (hpl:(backTo pos (starEach es X.env)).any (·.1)=false:=by rfl):PD X (.Call (.Name x p) (e::es) [] pos) (z0i φ gs):=by
 refine⟨fun pins s σ H F Γ I fo rl hgg=>?_⟩
 refine wpAny_Call_Name_kw (z6f I hg hm ?_ hdb)
 refine PySem.W.callWith_K (h₀:=X.base) I.ok.mod.kin Fn.kp (wpAny_mono (ha.run pos pins s σ H F Γ I fo rl (R.left hgg)) (fun us s1 ⟨ds,vs,H1,e1,I1,r1,S1,i1⟩=>⟨I1.kIn,?_⟩) fun _ _ x=>x.bind _) he hpl
 exact wpAny_mono (runD Fn hr I1 r1 i1 (R.next hgg e1) (.inl hex)) (fun _ _ q=>Post.bind e1 S1 q) fun _ _ q=>z1a.later e1 S1 q
theorem FnD.noEr{P:Program}{w:World}{K:PySem.W.Frag}{mg:Str->Option Value}{base:Heap}{k:Nat}{f:Addr}{fd:FuncData}{ps:List Str}{φ:List D->R D}(F:FnD P w K mg base k f fd ps φ):FnD P w K mg base k f fd ps (L3.noEr φ):=by
 refine⟨F.ok.imp fun vs H Q E h=>?_,F.binds,F.kp⟩
 obtain⟨ds,i,hne,hok,her⟩:=h
 obtain⟨d,e1,e2⟩:=y9m hne
 exact⟨ds,i,(by rw[e1];exact fun z=>nomatch z),fun d' v H' e S iv=>hok d' v H' (e2.trans (e1.symm.trans e)) S iv,fun c C H' e=>by rw[e1] at e;cases e⟩
theorem z6r{k:Nat}{f:Addr}{fd:FuncData}{ps:List Str}{φ:List D->R D}(Fn:FnD X.prog X.w X.K X.mg X.base k f fd ps φ)(hr:Room k X.A)(hm:X.mg x=some (.ref f))(ha:PAD X (e::es) gs)(hg:Gl X x:=by rfl)(hdb:(x==("__debug__":Str))=false:=by decide)
 (he:starEach (e::es) X.env=(false,eval e X.env)::starEach es X.env:=by rfl) (hpl:(backTo pos (starEach es X.env)).any (·.1)=false:=by rfl):PD X (.Call (.Name x p) (e::es) [] pos) (z0i (L3.noEr φ) gs):=by
 refine⟨fun pins s σ H F Γ I fo rl hgg=>?_⟩
 refine wpAny_Call_Name_kw (z6f I hg hm ?_ hdb)
 refine PySem.W.callWith_K (h₀:=X.base) I.ok.mod.kin Fn.kp (wpAny_mono (ha.run pos pins s σ H F Γ I fo rl (R.left hgg)) (fun us s1 ⟨ds,vs,H1,e1,I1,r1,S1,i1⟩=>⟨I1.kIn,?_⟩) fun _ _ x=>x.bind _) he hpl
 have hg1:=R.next hgg e1
 obtain⟨d,_,e3⟩:=y9m hg1
 exact wpAny_mono (runD Fn.noEr hr I1 r1 i1 hg1 (.inr fun c z=>by rw[e3] at z;cases z)) (fun _ _ q=>Post.bind e1 S1 q) fun _ _ q=>z1a.later e1 S1 q
theorem runF{k:Nat}{f:Addr}{fd:FuncData}{ps:List Str}{φ:List D->R (List D)}(Fn:FnF X.prog X.w X.K X.mg X.base k f fd ps φ)(hr:Room k X.A){pins:List (Addr×Obj)}{σ:St}{H:Hp}{s:Shared}{us:List Value}{vs:List V}{ds:List D}
 (I:Inv X pins σ H s) (r:Vals vs us) (i:IsAll X.K H ds vs) (hg:φ ds ≠ .no) (hx:X.ex=[]∨∀c,φ ds ≠ .er c):wpAny (model X.prog X.w) X.A (call (.ref f) us) (fun u s'=>∃es a xs H',φ ds = .ok es/\Inv X pins σ H' s'/\u = .ref a/\Same H H'/\H a=none/\H' a=some (.lst xs)/\IsAll X.K H' es xs) (z1a X pins σ H (φ ds)) s:=by
 have hsp:spF X.K X.mg φ vs H (fun v H'=>∃es a xs,v = .ref a/\φ ds = .ok es/\Same H H'/\H a=none/\H' a=some (.lst xs)/\IsAll X.K H' es xs) (fun C' _ H'=>∃c C,C' = .ref C/\φ ds = .er c/\X.mg c.nm=some (.ref C)/\Same H H') :=
  ⟨ds,i,hg,fun es a xs H' e S h1 h2 h3=>⟨es,a,xs,rfl,e,S,h1,h2,h3⟩,fun c C H' e hm S=>⟨c,C,rfl,e,hm,S⟩⟩
 have hl:us.length=ps.length:=by rw[<-r.length];exact Fn.ok.len _ _ _ _ hsp
 have hb:=Fn.binds s us I.kIn (by rw[List.append_nil];exact hl)
 rw[List.append_nil] at hb
 refine wpAny_call (codeAny_mono (Fn.ok.run X.A X.stack s H ⟨us,[]⟩ us vs _ _ hr I.env0 hb r hsp) fun r' s' hq=>?_)
 cases r' with
 | error u =>
   obtain⟨c,H',e1,S,fl⟩:=z7w (r:=φ ds>>=fun _=>.ok D.non) (E:=fun C' _ H'=>∃c C,C' = .ref C/\φ ds = .er c/\X.mg c.nm=some (.ref C)/\Same H H') (hx.imp_right fun z C H' ⟨c,_,_,q,_⟩=>z c q) I hq fun C H' hE=>by
    obtain⟨c,C',e,h1,h2,h3⟩:=hE
    cases e
    exact⟨c,R.stop h1 _,h2,h3⟩
   refine⟨c,H',?_,S,fl⟩
   cases q:φ ds with
   | no=>exact absurd q hg
   | ok _=>rw[q] at e1;cases e1
   | er c'=>rw[q] at e1;cases e1;rfl
 | ok fl =>
   cases fl with
   | ret u =>
     obtain⟨v,H',I',rv,es,a,xs,rfl,e,S,h1,h2,h3⟩:=I.after hq
     exact⟨es,a,xs,H',e,I',rv,S,h1,h2,h3⟩
   | next=>exact False.elim hq
   | brk=>exact False.elim hq
   | cont=>exact False.elim hq
theorem z4n{k:Nat}{f:Addr}{fd:FuncData}{ps:List Str}{φ:List D->R (List D)}(Fn:FnF X.prog X.w X.K X.mg X.base k f fd ps φ)(hr:Room k X.A)(hm:X.mg x=some (.ref f))(ha:PAD X (e::es) gs)(hex:X.ex=[]:=by rfl)(hg:Gl X x:=by rfl)(hdb:(x==("__debug__":Str))=false:=by decide)
 (he:starEach (e::es) X.env=(false,eval e X.env)::starEach es X.env:=by rfl) (hpl:(backTo pos (starEach es X.env)).any (·.1)=false:=by rfl):PF X (.Call (.Name x p) (e::es) [] pos) (z1v φ gs):=by
 refine⟨fun pins s σ H F Γ I fo rl hgg=>?_⟩
 refine wpAny_Call_Name_kw (z6f I hg hm ?_ hdb)
 refine PySem.W.callWith_K (h₀:=X.base) I.ok.mod.kin Fn.kp (wpAny_mono (ha.run pos pins s σ H F Γ I fo rl (R.left hgg)) (fun us s1 ⟨ds,vs,H1,e1,I1,r1,S1,i1⟩=>⟨I1.kIn,?_⟩) fun _ _ x=>x.bind _) he hpl
 have hg1:=R.next hgg e1
 refine wpAny_mono (runF Fn hr I1 r1 i1 (R.left hg1) (.inl hex)) (fun u s' ⟨es',a,xs,H',e2,I2,eu,S2,h1,h2,h3⟩=>?_) fun _ _ q=>z1a.later e1 S1 (q.bind _)
 have hgx:=R.next hg1 e2
 obtain⟨n,e3⟩:=R.guard_ne hgx
 exact⟨es',a,xs,H',(R.step e1 _).trans ((R.step e2 _).trans e3),I2,eu,S1.trans S2,S1.free h1,h2,IsAll.hid (((fo.same S1).same S2).cons h2) es' xs n h3⟩
theorem y4i{x:Str}(ha:PD X a ga)(hm:X.mg x=none)(hv:bootBuiltins x=some (.type "list"))(hg:Gl X x:=by rfl)(hn:x≠"__name__":=by decide)(hdb:(x==("__debug__":Str))=false:=by decide)
 (he:starEach [a] X.env=(false,eval a X.env)::starEach [] X.env:=by rfl) (hpl:(backTo pos (starEach [] X.env)).any (·.1)=false:=by rfl):PF X (.Call (.Name x p) [a] [] pos) (z4v ga):=by
 refine⟨fun pins s σ H F Γ I fo rl hgg=>?_⟩
 refine wpAny_Call_Name_kw (z2t I hg hm hv ?_ hn hdb)
 refine PyProof.Rows.callWith_type1 (wpAny_mono ((z0a ha z0c he).run pos pins s σ H F Γ I fo rl (fun z=>?_)) (fun us s1 ⟨ds,vs,H1,e1,I1,r1,S1,i1⟩=>?_) fun _ _ q=>?_) he hpl
 ·unfold gCons at z
  cases q:ga Γ with
  | no=>exact absurd (show z4v ga Γ = .no by unfold z4v;rw[q];rfl) hgg
  | ok d=>rw[q] at z;cases z
  | er c=>rw[q] at z;cases z
 ·have e0:∃d,ga Γ = .ok d/\ds=[d]:=by
   unfold gCons at e1
   cases q:ga Γ with
   | no=>rw[q] at e1;cases e1
   | ok d=>rw[q] at e1;cases e1;exact⟨d,rfl,rfl⟩
   | er c=>rw[q] at e1;cases e1
  obtain⟨d,ed,rfl⟩:=e0
  obtain⟨v,rfl,iv⟩:=z4t i1
  have hg1:=R.next hgg ed
  have fin:∀(p':Addr) (ys:List V) (es':List D),v = .ref p'->(SqL X.K H1 p' ys∨SqT X.K H1 p' ys)->IsAll X.K H1 es' ys->D.noLs es'=true->z4v ga Γ = .ok es' ->
   wpAny (model X.prog X.w) X.A (call (.type "list") us) (fun u s'=>∃ds a xs H',z4v ga Γ = .ok ds/\Inv X pins σ H' s'/\u = .ref a/\Same H H'/\H a=none/\H' a=some (.lst xs)/\IsAll X.K (hid (a::F) H') ds xs) (z1a X pins σ H (z4v ga Γ)) s1:=fun p' ys es' ev hq ie hn' eg=>by
   subst ev
   refine wpAny_mono (y3k (X:=X.nox) pins s1 σ H1 _ us (fun z H'=>∃l,z = .ref l/\H1 l=none/\H'=upd H1 l (.lst ys)) (I1.wish _) r1 ⟨p',ys,rfl,hq,fun l hl=>⟨l,rfl,hl,rfl⟩⟩) (fun u s' ⟨z,H',I',rz,l,ez,hl,eH⟩=>?_) fun _ _ z=>False.elim z
   subst ez eH
   have S2:=z1h hl (.lst ys)
   exact⟨es',l,ys,_,eg,I'.unwish,rz,S1.trans S2,S1.free hl,z0l,IsAll.hid (((fo.same S1).same S2).cons z0l) es' ys hn' (ie.same S2)⟩
  cases d with
  | tup es' =>
    obtain⟨n,e2⟩:=R.guard_ne (show R.guard (D.noLs es'=true) (.ok es') ≠ .no from hg1)
    obtain⟨p',ys,ev,h1,h2⟩:=Is.tup_iff.mp iv
    exact fin p' ys es' ev (.inr h1) h2 n ((R.step ed _).trans e2)
  | lst es' =>
    obtain⟨n,e2⟩:=R.guard_ne (show R.guard (D.noLs es'=true) (.ok es') ≠ .no from hg1)
    obtain⟨p',ys,ev,h1,h2⟩:=Is.lst_iff.mp iv
    exact fin p' ys es' ev (.inl h1) h2 n ((R.step ed _).trans e2)
  | _=>exact absurd rfl hg1
 ·obtain⟨c',H',e1,S,fl⟩:=q
  refine⟨c',H',?_,S,fl⟩
  unfold gCons at e1
  cases q:ga Γ with
  | no=>rw[q] at e1;cases e1
  | ok d=>rw[q] at e1;cases e1
  | er c=>rw[q] at e1;cases e1;unfold z4v;rw[q];rfl
theorem z5r{ga gb:G->R (List D)}(ha:PF X a ga)(hb:PF X b gb):PF X (.BinOp a .Add b pos) (gCat ga gb):=by
 refine⟨fun pins s σ H F Γ I fo rl hg=>?_⟩
 refine wpAny_BinOp (wpAny_mono (ha.run pins s σ H F Γ I fo rl (R.left hg)) (fun v s1 ⟨dx,a1,xs,H1,e1,I1,r1,S1,n1,h1,i1⟩=>?_) fun _ _ x=>x.bind _)
 have hg1:=R.next hg e1
 refine wpAny_mono (hb.run pins s1 σ H1 F Γ I1 (fo.same S1) (rl.same S1) (R.left hg1)) (fun u s2 ⟨dy,a2,ys,H2,e2,I2,r2,S2,n2,h2,i2⟩=>?_) fun _ _ x=>z1a.later e1 S1 (x.bind _)
 have hgx:=R.next hg1 e2
 obtain⟨hc,e3⟩:=R.guard_ne hgx
 subst r1 r2
 have hz:xs.length+ys.length<=sizeLine:=by rw[<-i1.length,<-i2.length];exact z3l hc
 refine wpAny_mono (x7y (X:=X.nox) pins s2 σ H2 (.ref a1) (.ref a2) _ _ (fun z H'=>∃l,z = .ref l/\H2 l=none/\H'=upd H2 l (.lst (xs++ys))) (I2.wish _) rfl rfl ⟨a1,a2,xs,ys,rfl,rfl,S2 _ _ h1,h2,hz,fun l hl=>⟨l,rfl,hl,rfl⟩⟩) (fun u s' ⟨z,H',I',rz,l,ez,hl,eH⟩=>?_) fun _ _ z=>False.elim z
 subst ez eH
 have S3:=z1h hl (.lst (xs++ys))
 have up:∀{q:Addr} {Hq:Hp} {zs:List V} {ds:List D},Same Hq H2->Hq q≠none->IsAll X.K (hid (q::F) Hq) ds zs->IsAll X.K (hid (l::F) (upd H2 l (.lst (xs++ys)))) ds zs:=fun {q Hq zs ds} Sq hq i=>by
  refine i.same fun b o hb=>?_
  obtain⟨z1,z2⟩:=z1e hb
  have z3:=Sq _ _ z2
  have hbl:b≠l:=z0y z3 hl
  rw[z0k fun z=>(List.mem_cons.mp z).elim hbl fun z'=>z1 (List.mem_cons_of_mem _ z'),z0s hbl]
  exact z3
 exact⟨dx++dy,l,xs++ys,_,(R.step e1 _).trans ((R.step e2 _).trans e3),I'.unwish,rz,(S1.trans S2).trans S3,S1.free (S2.free hl),z0l,(up S2 (by rw[h1];simp) i1).append (up (.refl _) (by rw[h2];simp) i2)⟩
end
noncomputable def JD(K:PySem.W.Frag)(H:Hp)(F:List Addr)(J:It)(ds:List D):Prop:=∀H1,(∀b o,b ∉ F->H b=some o->H1 b=some o) ->
 (∀i:Nat,i<ds.length->J.go i H1/\∀x H2,J.yld i H1 x H2->H2=H1/\∃d,ds[i]? = some d/\∀F',(∀b,b∈F'->b∈F∨H b=none)->Is K (hid F' H1) d x)/\J.stop ds.length H1
noncomputable def JC(K:PySem.W.Frag)(H:Hp)(F:List Addr)(J:It)(ds:List D):Prop:=∀H1,Same H H1 ->
 (∀i:Nat,i<ds.length->J.go i H1/\∀x H2,J.yld i H1 x H2->H2=H1/\∃d,ds[i]? = some d/\Is K (hid F H1) d x)/\J.stop ds.length H1
theorem JD.jc{K:PySem.W.Frag}{H:Hp}{F:List Addr}{J:It}{ds:List D}(h:JD K H F J ds):JC K H F J ds:=fun H1 S=>by
 obtain⟨h1,h2⟩:=h H1 fun b o _ q=>S b o q
 refine⟨fun i hi=>⟨(h1 i hi).1,fun x H2 y=>?_⟩,h2⟩
 obtain⟨e,d,ed,iv⟩:=(h1 i hi).2 x H2 y
 exact⟨e,d,ed,iv F fun b hb=>.inl hb⟩
structure PIx (Jx:PySem.W.Frag->Hp->List Addr->It->List D->Prop) (X:Cx) (tg iter:Expr) (g:G->R (List D)):Prop where
 run:∀(pins:List (Addr×Obj)) (s:Shared) (σ:St) (H:Hp) (F:List Addr) (Γ:G),Inv X pins σ H s->FOk H F->Rel X.K H F Γ σ->g Γ ≠ .no ->
  wpAny (model X.prog X.w) X.A (eval iter X.env) (fun v s1=>wpAny (model X.prog X.w) X.A (pyIter v) (fun itv s2=>∃(ds:List D) (it:Addr) (fp:List Addr) (tn:Nat->Heap->Prop) (J:It) (H':Hp),g Γ = .ok ds/\itv = .ref it/\Inv X pins σ H' s2/\Same H H' /\
   Turn X.prog X.w X.K tg J fp it tn/\tn 0 s2.heap/\(∀b∈fp,FpOk X pins H' b)/\Jx X.K H' F J ds) (z1a X pins σ H (g Γ)) s1) (z1a X pins σ H (g Γ)) s
noncomputable abbrev PIF:=PIx JD
noncomputable abbrev PIC:=PIx JC
theorem PIx.pic{X:Cx}{tg iter:Expr}{g:G->R (List D)}(h:PIF X tg iter g):PIC X tg iter g:=⟨fun pins s σ H F Γ I fo rl hg =>
 thn (h.run pins s σ H F Γ I fo rl hg) fun v s1 h1=>thn h1 fun itv s2 ⟨ds,it,fp,tn,J,H',e,ei,I',S,T,t0,fk,j⟩=>⟨ds,it,fp,tn,J,H',e,ei,I',S,T,t0,fk,j.jc⟩⟩
section
variable {X:Cx}{tg a b:Expr}{ga gb:G->R D}
theorem x0d{K:PySem.W.Frag}{H:Hp}{F:List Addr}{p:Addr}{xs:List V}{ds:List D}(h:SqL K H p xs)(i:IsAll K (hid F H) ds xs):JC K H F (Itl K p) ds:=fun H1 S=>by
 have h1:=S.seq h
 have il:=i.length
 refine⟨fun j hj=>⟨⟨xs,xs[j]'(by lia),h1,List.getElem?_eq_getElem (by lia)⟩,fun x H2 y=>⟨y.1,?_⟩⟩,⟨xs,h1,by lia⟩⟩
 exact(i.same (z2b S)).getX (y.2 xs h1)
theorem x2q{H H1:Hp}{F F':List Addr}(S:∀b o,b ∉ F->H b=some o->H1 b=some o)(o:∀b,b∈F'->b∈F∨H b=none):Same (hid F H) (hid F' H1):=Ext.hid ⟨S,o⟩
theorem x4j{K:PySem.W.Frag}{H:Hp}{F:List Addr}{p:Addr}{xs:List V}{ds:List D}(h:SqT K (hid F H) p xs)(i:IsAll K (hid F H) ds xs):JD K H F (Itt K p) ds:=fun H1 S=>by
 have h1:SqT K H1 p xs:=z2e (z1j (F:=F)) (z2e (x2q S fun b hb=>.inl hb) h)
 have il:=i.length
 refine⟨fun j hj=>⟨⟨xs,xs[j]'(by lia),h1,List.getElem?_eq_getElem (by lia)⟩,fun x H2 y=>⟨y.1,?_⟩⟩,⟨xs,h1,by lia⟩⟩
 obtain⟨d,ed,iv⟩:=i.getX (y.2 xs h1)
 exact⟨d,ed,fun F' hF=>iv.same (x2q S hF)⟩
theorem x6m{K:PySem.W.Frag}{H:Hp}{F:List Addr}{p:Addr}{xs:List V}{ds:List D}(h:SqL K (hid F H) p xs)(i:IsAll K (hid F H) ds xs):JD K H F (Itl K p) ds:=fun H1 S=>by
 have h1:SqL K H1 p xs:=(z1j (F:=F)).seq ((x2q S fun b hb=>.inl hb).seq h)
 have il:=i.length
 refine⟨fun j hj=>⟨⟨xs,xs[j]'(by lia),h1,List.getElem?_eq_getElem (by lia)⟩,fun x H2 y=>⟨y.1,?_⟩⟩,⟨xs,h1,by lia⟩⟩
 obtain⟨d,ed,iv⟩:=i.getX (y.2 xs h1)
 exact⟨d,ed,fun F' hF=>iv.same (x2q S hF)⟩
theorem y4t{pins:List (Addr×Obj)}{σ:St}{H:Hp}{s:Shared}{p:Addr}{xs:List V}{E:Value->Shared->Prop}{Q:Value->Shared->Prop}(I:Inv X pins σ H s)(h:SqL X.K H p xs)
 (q:∀it s2,Inv X pins σ H s2->Turn X.prog X.w X.K tg (Itl X.K p) [it] it (fun i h=>h.IsListIter it p i)->s2.heap.IsListIter it p 0->(∀b∈[it],FpOk X pins H b)->Q (.ref it) s2):wpAny (model X.prog X.w) X.A (pyIter (.ref p)) Q E s:=by
 obtain⟨its,rv,pl,hz⟩:=I.list h
 refine wpAny_pyIter_list pl.isList (q s.heap.objs.size _ (I.kept (t':=s.toks) fun b o e=>Heap.get?_push_of_some _ e) (y8d p _) ⟨_,Heap.get?_push_size _ rfl,rfl,rfl⟩ fun b hb=>?_)
 have e:b=s.heap.objs.size:=by simpa using hb
 subst e
 exact I.fpOk (Nat.le_refl _) (I.hok.fresh (Nat.le_refl _))
theorem x4l{pins:List (Addr×Obj)}{σ:St}{H:Hp}{s:Shared}{p:Addr}{xs:List V}{E:Value->Shared->Prop}{Q:Value->Shared->Prop}(I:Inv X pins σ H s)(h:SqT X.K H p xs)
 (q:∀it s2,Inv X pins σ H s2->Turn X.prog X.w X.K tg (Itt X.K p) [it] it (fun i h=>h.IsTupleIter it p i)->s2.heap.IsTupleIter it p 0->(∀b∈[it],FpOk X pins H b)->Q (.ref it) s2):wpAny (model X.prog X.w) X.A (pyIter (.ref p)) Q E s:=by
 obtain⟨its,rv,pl,hz⟩:=I.tuple h
 refine wpAny_pyIter_tuple (show s.heap.IsTuple p its.toArray from pl) (q s.heap.objs.size _ (I.kept (t':=s.toks) fun b o e=>Heap.get?_push_of_some _ e) (y6q p _) ⟨_,Heap.get?_push_size _ rfl,rfl,rfl⟩ fun b hb=>?_)
 have e:b=s.heap.objs.size:=by simpa using hb
 subst e
 exact I.fpOk (Nat.le_refl _) (I.hok.fresh (Nat.le_refl _))
theorem z7g(ha:PDr X a ga):PIF X tg a (gSeq ga):=by
 refine⟨fun pins s σ H F Γ I fo rl hg=>?_⟩
 refine wpAny_mono (ha.run pins s σ H F Γ I fo rl (R.left hg)) (fun v s1 ⟨d,x,H1,e1,I1,r1,S1,i1⟩=>?_) fun _ _ x=>x.bind _
 have hg1:=R.next hg e1
 cases d with
 | tup ds =>
   obtain⟨p,xs,rfl,h1,h2⟩:=Is.tup_iff.mp i1
   cases (show v=Value.ref p from r1)
   exact x4l (tg:=tg) I1 (z2e (z1j (F:=F)) h1) fun it s2 I2 T t0 fk=>⟨ds,it,_,_,_,H1,R.step e1 _,rfl,I2,S1,T,t0,fk,x4j h1 h2⟩
 | lst ds =>
   obtain⟨p,xs,rfl,h1,h2⟩:=Is.lst_iff.mp i1
   cases (show v=Value.ref p from r1)
   exact y4t (tg:=tg) I1 ((z1j (F:=F)).seq h1) fun it s2 I2 T t0 fk=>⟨ds,it,_,_,_,H1,R.step e1 _,rfl,I2,S1,T,t0,fk,x6m h1 h2⟩
 | _=>exact absurd rfl hg1
theorem z8t(ha:PD X a ga):PIC X tg a (z4g ga):=by
 refine⟨fun pins s σ H F Γ I fo rl hg=>?_⟩
 refine wpAny_mono (ha.run pins s σ H F Γ I fo rl (R.left hg)) (fun v s1 ⟨d,x,H1,e1,I1,r1,S1,i1⟩=>?_) fun _ _ x=>x.bind _
 have hg1:=R.next hg e1
 cases d with
 | tup ds =>
   obtain⟨n,e2⟩:=R.guard_ne (show R.guard (D.noLs ds=true) (.ok ds) ≠ .no from hg1)
   obtain⟨p,xs,rfl,h1,h2⟩:=Is.tup_iff.mp i1
   cases (show v=Value.ref p from r1)
   exact x4l (tg:=tg) I1 h1 fun it s2 I2 T t0 fk=>⟨ds,it,_,_,_,H1,(R.step e1 _).trans e2,rfl,I2,S1,T,t0,fk,(x4j (y8j (fo.same S1) h1) (IsAll.hid (fo.same S1) ds xs n h2)).jc⟩
 | lst ds =>
   obtain⟨n,e2⟩:=R.guard_ne (show R.guard (D.noLs ds=true) (.ok ds) ≠ .no from hg1)
   obtain⟨p,xs,rfl,h1,h2⟩:=Is.lst_iff.mp i1
   cases (show v=Value.ref p from r1)
   exact y4t (tg:=tg) I1 h1 fun it s2 I2 T t0 fk=>⟨ds,it,_,_,_,H1,(R.step e1 _).trans e2,rfl,I2,S1,T,t0,fk,x0d h1 (IsAll.hid (fo.same S1) ds xs n h2)⟩
 | _=>exact absurd rfl hg1
theorem y6e{K:PySem.W.Frag}{H:Hp}{F:List Addr}(lo:Int)(n:Nat):JD K H F (Itr lo n) (z3e lo n):=fun H1 S=>by
 rw[z0t]
 refine⟨fun j hj=>⟨hj,fun x H2 y=>⟨y.1,.int (lo+(j:Int)),z7f lo n j hj,fun F' _=>?_⟩⟩,Nat.le_refl _⟩
 exact Is.int_iff.mpr y.2
theorem z7h{p pos:Pos}(ha:PD X a ga)(hm:X.mg "range"=none)(hg:Gl X "range":=by rfl)(hs:starEach [a] X.env=[(false,eval a X.env)]:=by rfl):PIF X tg (.Call (.Name "range" p) [a] [] pos) (y1j ga):=by
 refine⟨fun pins s σ H F Γ I fo rl hgg=>?_⟩
 refine Call_ (z2t I hg hm boot_range (PyProof.Rows.callWith_type1 ?_ hs rfl))
 rw[hs]
 show wpAny _ _ (spliced ((false,eval a X.env)::backTo pos [])) _ _ s
 refine Calls.spliced_cons (wpAny_mono (ha.run pins s σ H F Γ I fo rl (R.left hgg)) (fun u s1 ⟨d,v,H1,e1,I1,r1,S1,i1⟩=>Calls.spliced_nil ?_) fun _ _ x=>x.bind _)
 have hg1:=R.next hgg e1
 cases d with
 | int j =>
   obtain⟨⟨h1,h2⟩,e2⟩:=R.guard_ne (show R.guard (-(2^62)<=j/\j<2^62) (.ok (z3e 0 j.toNat)) ≠ .no from hg1)
   rw[Is.int_iff.mp i1] at r1
   obtain⟨t,rfl⟩:=(show ∃t,u=Value.int j t from r1)
   refine call_range_1 (thn (y1c (tg:=tg) (R:=fun J H'=>J=Itr 0 (j-0).toNat/\H'=H1) I1 (by lia) (by lia) h1 h2 ⟨rfl,rfl⟩) fun itv s2 ⟨it,fp,tn,J,H',ei,I2,T,t0,fk,eJ,eH⟩=>?_)
   subst eJ eH
   rw[Int.sub_zero] at T
   exact⟨_,it,fp,tn,_,H',(R.step e1 _).trans e2,ei,I2,S1,T,t0,fk,y6e 0 j.toNat⟩
 | _=>exact absurd rfl hg1
theorem y7f{p pos:Pos}(ha:PD X a ga)(hb:PD X b gb)(hm:X.mg "range"=none)(hg:Gl X "range":=by rfl)(hs:starEach [a,b] X.env=[(false,eval a X.env),(false,eval b X.env)]:=by rfl)(hs2:starEach [b] X.env=[(false,eval b X.env)]:=by rfl) :
 PIF X tg (.Call (.Name "range" p) [a,b] [] pos) (y1i ga gb):=by
 refine⟨fun pins s σ H F Γ I fo rl hgg=>?_⟩
 refine Call_ (z2t I hg hm boot_range (PyProof.Rows.callWith_type1 ?_ (by rw[hs,hs2]) (by rw[hs2];rfl)))
 rw[hs]
 show wpAny _ _ (spliced ((false,eval a X.env)::backTo pos [(false,eval b X.env)])) _ _ s
 refine Calls.spliced_cons (wpAny_mono (ha.run pins s σ H F Γ I fo rl (R.left hgg)) (fun u s1 ⟨d,v,H1,e1,I1,r1,S1,i1⟩=>?_) fun _ _ x=>x.bind _)
 have hg1:=R.next hgg e1
 show wpAny _ _ (spliced ((false,eval b X.env)::backTo pos [])) _ _ s1
 refine Calls.spliced_cons (wpAny_mono (hb.run pins s1 σ H1 F Γ I1 (fo.same S1) (rl.same S1) (R.left hg1)) (fun u2 s2 ⟨d2,v2,H2,e2,I2,r2,S2,i2⟩=>Calls.spliced_nil ?_) fun _ _ x=>z1a.later e1 S1 (x.bind _))
 have hg2:=R.next hg1 e2
 cases d with
 | int i =>
   cases d2 with
   | int j =>
     obtain⟨⟨⟨h1,h2⟩,h3,h4⟩,e3⟩:=R.guard_ne (show R.guard ((-(2^62)<=i/\i<2^62) /\ -(2^62)<=j/\j<2^62) (.ok (z3e i (j-i).toNat)) ≠ .no from hg2)
     rw[Is.int_iff.mp i1] at r1
     rw[Is.int_iff.mp i2] at r2
     obtain⟨t,rfl⟩:=(show ∃t,u=Value.int i t from r1)
     obtain⟨t',rfl⟩:=(show ∃t,u2=Value.int j t from r2)
     refine call_range_2 (thn (y1c (tg:=tg) (R:=fun J H'=>J=Itr i (j-i).toNat/\H'=H2) I2 h1 h2 h3 h4 ⟨rfl,rfl⟩) fun itv s3 ⟨it,fp,tn,J,H',ei,I3,T,t0,fk,eJ,eH⟩=>?_)
     subst eJ eH
     exact⟨_,it,fp,tn,_,H',(R.step e1 _).trans ((R.step e2 _).trans e3),ei,I3,S1.trans S2,T,t0,fk,y6e i (j-i).toNat⟩
   | _=>exact absurd rfl hg2
 | _=>exact absurd rfl hg2
end
theorem x8i{k:NameKind}(h:(k==NameKind.free)=true):k = .free:=by cases k<;>first | rfl | (exact absurd h (by decide))
noncomputable def capt(env:Env):List (Str×NameKind)->List (Str×Addr)->List (Str×Addr)
 | [],cs=>cs
 | (n,k)::r,cs=>if (k == .free)=true then (match env.cells.lookup n with | some a=>capt env r ((n,a)::cs) | none=>capt env r cs) else capt env r cs
theorem z3o{env:Env}{x:Str}{c:Addr}:∀(names:List (Str×NameKind)) (cs:List (Str×Addr)),(x,c)∈capt env names cs->(x,c)∈cs∨env.cells.lookup x=some c
 | [],cs,h=>.inl h
 | (n,k)::r,cs,h=>by
   unfold capt at h
   split at h
   ·split at h
    ·rename_i a e
     rcases z3o r _ h with q | q
     ·rcases List.mem_cons.mp q with z | z
      ·cases z;exact .inr e
      ·exact .inl z
     ·exact .inr q
    ·exact z3o r _ h
   ·exact z3o r _ h
theorem z8l{env:Env}{p:Str×Addr}:∀(names:List (Str×NameKind)) (cs:List (Str×Addr)),p∈cs->p∈capt env names cs
 | [],cs,h=>h
 | (n,k)::r,cs,h=>by
   unfold capt
   split
   ·split
    ·exact z8l r _ (List.mem_cons_of_mem _ h)
    ·exact z8l r _ h
   ·exact z8l r _ h
theorem z7d{env:Env}{x:Str}{c:Addr}(e:env.cells.lookup x=some c):∀(names:List (Str×NameKind)) (cs:List (Str×Addr)),(x,NameKind.free)∈names->(x,c)∈capt env names cs
 | [],cs,h=>by simp at h
 | (n,k)::r,cs,h=>by
   unfold capt
   rcases List.mem_cons.mp h with z | z
   ·cases z
    rw[if_pos (show(NameKind.free==NameKind.free)=true by decide),e]
    exact z8l r _ List.mem_cons_self
   ·split
    ·split
     ·exact z7d e r _ z
     ·exact z7d e r _ z
    ·exact z7d e r _ z
theorem z3k{α:Type}:∀{l:List (Str×α)} {x:Str} {c:α},(x,c)∈l->∃c',l.lookup x=some c'/\(x,c')∈l
 | [],_,_,h=>by simp at h
 | (n,a)::r,x,c,h=>by
   by_cases e:x=n
   ·subst e;exact⟨a,by simp[List.lookup],List.mem_cons_self⟩
   ·rcases List.mem_cons.mp h with z | z
    ·cases z;exact absurd rfl e
    ·obtain⟨c',h1,h2⟩:=z3k z
     exact⟨c',by rw[List.lookup_cons,beq_eq_false_iff_ne.mpr e];exact h1,List.mem_cons_of_mem _ h2⟩
noncomputable def z9u(N:List Str)(env:Env)(y:Str)(scope:Scope):Bool :=
 decide (scope.kind = .function)&&scope.names.all (fun p=>decide (p.2 ≠ .cell)&&(decide (p.2 ≠ .local)||decide (scope.names.lookup p.1=some .local))&&(decide (p.2 ≠ .free)||((env.cells.lookup p.1).isSome&&(decide (env.scope.names.lookup p.1=some .cell)||decide (env.scope.names.lookup p.1=some .free)))))
  && decide (scope.names.lookup y=some .local)&&decide (scope.names.lookup (("":Str))=none)&&N.all (fun z=>decide (scope.names.lookup z≠some .local)||decide (z=y))&&N.all (fun z=>decide (z≠("":Str)))
structure CompOk (N:List Str) (env:Env) (y:Str) (scope:Scope):Prop where
 kind:scope.kind = .function
 nocell:∀p∈scope.names,p.2 ≠ .cell
 names:∀p∈scope.names,p.2 = .local->scope.names.lookup p.1=some .local
 free:∀p∈scope.names,p.2 = .free->(∃c,env.cells.lookup p.1=some c)/\(env.scope.names.lookup p.1=some .cell∨env.scope.names.lookup p.1=some .free)
 loc:scope.names.lookup y=some .local
 nil:scope.names.lookup (("":Str))=none
 only:∀z∈N,scope.names.lookup z=some .local->z=y
 none:∀z∈N,z≠("":Str)
theorem z9r{N:List Str}{env:Env}{y:Str}{scope:Scope}(h:z9u N env y scope=true):CompOk N env y scope:=by
 unfold z9u at h
 simp only[Bool.and_eq_true,List.all_eq_true,Bool.or_eq_true,decide_eq_true_eq] at h
 obtain⟨⟨⟨⟨⟨h1,h2⟩,h3⟩,h4⟩,h5⟩,h6⟩:=h
 refine⟨h1,fun p hp=>(h2 p hp).1.1,fun p hp e=>((h2 p hp).1.2).resolve_left fun z=>z e,fun p hp e=>?_,h3,h4,fun z hz e=>(h5 z hz).resolve_left fun q=>q e,h6⟩
 have q:=((h2 p hp).2).resolve_left fun z=>z e
 exact⟨Option.isSome_iff_exists.mp q.1,q.2⟩
noncomputable def z0q(X:Cx)(y:Str)(scope:Scope)(C:Addr)(s₂:Shared)(H₂:Hp)(fp:List Addr)(pn:List (Addr×Obj)):Cx :=
 { X with N:=y::X.N.map (fun z=>if z=y then ("":Str) else z),s₀:=s₂,H₀:=H₂,env:=compEnvC scope (capt X.env scope.names []) C X.env,outer:=X.stack,ex:=fp,fn:=fun _=>false,pn:=pn,xe:=fun _ _=>False }
theorem y2a{α β:Type}{M:Model}{A:Around}{E E':Value->Shared->Prop}{s:Shared}{a:α}{t:Sem β}{P:α->Shared->Prop}{Q:β->Shared->Prop}(h:wpAny M A (pure a) P E s)(k:P a s->wpAny M A t Q E' s):wpAny M A t Q E' s:=fun Γ p hΓ=>k (h Γ p hΓ) Γ p hΓ
theorem x2s{P:Program}{w:World}{H:Hp}{h:Heap}{a:Addr}{o:HO}(x:HOk P w H h)(hn:H a=none)(new:z4x P w (upd H a o) h a o):HOk P w (upd H a o) h:=fun b u e=>by
 by_cases hb:b=a
 ·subst hb;rw[z0l] at e;cases e;exact new
 ·rw[z0s hb] at e
  exact(x b u e).stay (fun c v _ q=>q) (fun c q=>by rw[z0s (z0y q hn)];exact q) fun c xs q=>by rw[z0s (z0y q hn)];exact q
theorem y3f{X:Cx}{y:Str}{scope:Scope}{C Dd:Addr}{fp:List Addr}{pins pl:List (Addr×Obj)}{σ σ':St}{H₂ H':Hp}{s₂ s1:Shared}{xs:List V}{its:List Value}{n:Nat}(I:Inv X pins σ H₂ s₂)
 (J:Inv (z0q X y scope C s₂ H₂ fp (X.pn++pins)) pl σ' H' s1) (hD:s₂.heap.objs.size<=Dd) (hn:H' Dd=none) (hd:s1.heap.get? Dd=some { cls:=.type "list",data:=.seq its.toArray n }) (rv:Vals xs its) (hz:xs.length<=sizeLine) (hf:∀b∈fp,FpOk X pins H₂ b) :
 Inv X pins σ (upd H' Dd (.lst xs)) s1:=by
 have os:s1.os=s₂.os:=J.os
 have un:Un (frs X.stack) fp H₂ H' s₂.heap s1.heap:=J.base
 have hok:HOk X.prog X.w H' s1.heap:=J.hok
 have bare:AllBare s1.gens:=J.bare
 clear J
 obtain⟨hh,gg,dd,tt,os'⟩:=s1
 obtain rfl:os'=s₂.os:=os
 have neD:∀b o,s₂.heap.get? b=some o->b≠Dd:=fun b o e=>Nat.ne_of_lt (Nat.lt_of_lt_of_le (Heap.lt_size e) hD)
 refine I.call (h':=hh) (g':=gg) (d':=dd) (t':=tt) (ch:=fp) ⟨un.keep,un.slot,fun b o e n' hx=>?_,un.there,fun b ys e=>?_,fun b o u e=>?_,fun b ps e=>?_⟩ (x2s hok hn ⟨hz,its,n,rv,hd⟩) bare fun b hb=>?_
 ·rw[z0s (neD b o e)];exact un.free b o e n' hx
 ·have q:=un.tups b ys e
  rw[z0s (z0y q hn)];exact q
 ·have q:=un.frzs b o u e
  rw[z0s (z0y q hn)];exact q
 ·obtain⟨more,q⟩:=un.tbls b ps e
  exact⟨more,by rw[z0s (z0y q hn)];exact q⟩
 ·obtain⟨f0,f1,f2,f3,f4,f5⟩:=hf b hb
  exact⟨f3.imp_right fun z=>Heap.get?_none_of_le z,f1,f4,f5⟩
theorem x6y{X:Cx}{y:Str}{scope:Scope}{C:Addr}{fp:List Addr}{pins:List (Addr×Obj)}{σ:St}{H₂:Hp}{s₂:Shared}(I:Inv X pins σ H₂ s₂)(c:CompOk X.N X.env y scope)(hC:s₂.heap.objs.size<=C)(hf:∀b∈fp,FpOk X pins H₂ b)(ho:∀b∈fp,b<s₂.heap.objs.size) :
 (z0q X y scope C s₂ H₂ fp (X.pn++pins)).Ok:=by
 have cells:∀x k,(capt X.env scope.names []).lookup x=some k->X.env.cells.lookup x=some k:=fun x k e=>by
  rcases z3o scope.names [] (PySem.mem_of_lookup e) with q | q
  ·simp at q
  ·exact q
 refine⟨I.ok.mod,c.kind,I.ok.glob,I.ok.blt,hC,fun x z k h1 h2=>I.ok.inj x z k (cells x k h1) (cells z k h2),fun x hx=>?_,fun x k h _=>absurd h (by simp[z0q]),I.ok.hd,I.ok.frames,.inl rfl,fun b hb=>?_,I.bs,Nat.le_trans I.ok.bsz I.sz,fun b o e hb=>?_,fun b hb z=>?_,I.stack,I.stkFree⟩
 ·have hx':(relabel scope X.env).names.lookup x=some .cell∨(relabel scope X.env).names.lookup x=some .free:=hx
  have hm:∃k,(x,k)∈scope.names/\(k = .free∨k = .cell):=by
   rcases hx' with q | q <;>
   ·have m:=PySem.mem_of_lookup q
    unfold relabel at m
    simp only[List.mem_map] at m
    obtain⟨⟨n,k⟩,hm,e⟩:=m
    by_cases hc:(k==NameKind.free&&X.env.scope.kind == .function&&X.env.kindOf n==some .cell)=true
    ·rw[if_pos hc] at e
     have e1:n=x:=congrArg Prod.fst e
     subst e1
     rw[Bool.and_eq_true,Bool.and_eq_true] at hc
     exact⟨k,hm,.inl (x8i hc.1.1)⟩
    ·rw[if_neg hc] at e
     have e1:n=x:=congrArg Prod.fst e
     have e2:=congrArg Prod.snd e
     dsimp only at e2
     subst e1 e2
     exact⟨_,hm,by first | exact .inr rfl | exact .inl rfl⟩
  obtain⟨k,hm,hk⟩:=hm
  rcases hk with rfl | rfl
  ·obtain⟨⟨a,ea⟩,_⟩:=c.free _ hm rfl
   obtain⟨c',h1,_⟩:=z3k (z7d ea scope.names [] hm)
   exact⟨c',h1⟩
  ·exact absurd rfl (c.nocell _ hm)
 ·refine⟨Nat.ne_of_lt (Nat.lt_of_lt_of_le (ho b hb) hC),fun x k e=>(hf b hb).2.2.2.2.1 x k (cells x k e)⟩
 ·rcases(hf b hb).2.2.2.1 with z | z
  ·exact I.ok.noex b o e z
  ·exact absurd (Nat.lt_of_lt_of_le (Nat.lt_of_lt_of_le (Heap.lt_size e) I.ok.bsz) z) (Nat.lt_irrefl _)
 ·rcases List.mem_cons.mp (I.stkSub b z) with q | q
  ·exact(hf b hb).2.1 q
  ·exact(hf b hb).2.2.1 q
section
variable {X:Cx}{y:Str}{scope:Scope}
theorem y0p{C Dd:Addr}{fp:List Addr}{pins:List (Addr×Obj)}{σ:St}{H₂:Hp}{s₂:Shared}{h₁:Heap}{tk:Nat}{oD:Obj}{m:Str->Option Value}(I:Inv X pins σ H₂ s₂)(c:CompOk X.N X.env y scope)(hC:s₂.heap.objs.size<=C)(hD:s₂.heap.objs.size<=Dd)(hDC:Dd≠C)(hf:∀b∈fp,FpOk X pins H₂ b)(ho:∀b∈fp,b<s₂.heap.objs.size)
 (old:∀b o,s₂.heap.get? b=some o->h₁.get? b=some o) (hns:h₁.Ns C m) (hd:h₁.get? Dd=some oD) (hdd:∀v,oD.data ≠ .cell v) :
 Inv (z0q X y scope C s₂ H₂ fp (X.pn++pins)) [(Dd,oD)] (none::σ) H₂ { s₂ with heap:=h₁,toks:=tk }:=by
 have cells:∀x k,(capt X.env scope.names []).lookup x=some k->X.env.cells.lookup x=some k:=fun x k e=>by
  rcases z3o scope.names [] (PySem.mem_of_lookup e) with q | q
  ·simp at q
  ·exact q
 have nstk:∀b,s₂.heap.objs.size<=b->b ∉ frs X.stack:=fun b hb z=>by
  rcases List.mem_cons.mp (I.stkSub b z) with q | q
  ·exact absurd (Nat.lt_of_lt_of_le I.lt (by rw[<-q];exact hb)) (Nat.lt_irrefl _)
  ·exact I.nofs hb q
 refine⟨x6y I c hC hf ho,rfl,I.bare,Un.kept old,⟨m,hns,fun i x v e1 e2 e3=>?_⟩,fun x k e=>?_,I.hok.fresh hC,fun x k e=>I.freeC x k (cells x k e),fun p hp=>?_,I.hok.kept old,?_⟩
 ·cases i with
  | zero=>simp at e2
  | succ i =>
    have e2':σ[i]? = some (some v):=by simpa using e2
    have e1':(X.N.map (fun z=>if z=y then ("":Str) else z))[i]? = some x:=by simpa [z0q] using e1
    rw[List.getElem?_map] at e1'
    cases hz:X.N[i]? with
    | none=>rw[hz] at e1';cases e1'
    | some z =>
      rw[hz] at e1'
      simp only[Option.map_some,Option.some.injEq] at e1'
      have e3':Vis (relabel scope X.env) x:=e3
      have look0:∀{k:NameKind},(relabel scope X.env).names.lookup x=some k->∃k',(x,k')∈scope.names/\(k'=k∨(k' = .free/\k = .cell)):=fun {k} q=>by
       have m':=PySem.mem_of_lookup q
       unfold relabel at m'
       simp only[List.mem_map] at m'
       obtain⟨⟨n,k0⟩,hm,e⟩:=m'
       by_cases hc:(k0==NameKind.free&&X.env.scope.kind == .function&&X.env.kindOf n==some .cell)=true
       ·rw[if_pos hc] at e
        have e1:n=x:=congrArg Prod.fst e
        have e2:=congrArg Prod.snd e
        dsimp only at e2
        subst e1 e2
        rw[Bool.and_eq_true,Bool.and_eq_true] at hc
        exact⟨k0,hm,.inr ⟨x8i hc.1.1,rfl⟩⟩
       ·rw[if_neg hc] at e
        have e1:n=x:=congrArg Prod.fst e
        have e2:=congrArg Prod.snd e
        dsimp only at e2
        subst e1 e2
        exact⟨_,hm,.inl rfl⟩
      have inames:∀k',(x,k')∈scope.names->x≠("":Str):=fun k' hm z=>by
       subst z
       obtain⟨c',h1,_⟩:=z3k hm
       rw[c.nil] at h1;cases h1
      have ne:x≠("":Str):=by
       rcases e3' with q | q | q<;>(obtain⟨k',hm,_⟩:=look0 q;exact inames k' hm)
      by_cases hzy:z=y
      ·rw[if_pos hzy] at e1';exact absurd e1'.symm ne
      ·rw[if_neg hzy] at e1'
       subst e1'
       have fr:(z,NameKind.free)∈scope.names:=by
        rcases e3' with q | q | q
        ·obtain⟨k',hm,hk⟩:=look0 q
         rcases hk with rfl | ⟨_,hk⟩
         ·exact absurd (c.only z (List.mem_of_getElem? hz) (c.names _ hm rfl)) hzy
         ·cases hk
        ·obtain⟨k',hm,hk⟩:=look0 q
         rcases hk with rfl | ⟨rfl,_⟩
         ·exact absurd rfl (c.nocell _ hm)
         ·exact hm
        ·obtain⟨k',hm,hk⟩:=look0 q
         rcases hk with rfl | ⟨_,hk⟩
         ·exact hm
         ·cases hk
       obtain⟨⟨ca,eca⟩,hv⟩:=c.free _ fr rfl
       obtain⟨m0,hn0,hl0⟩:=I.loc
       obtain⟨u,ru,lk⟩:=hl0 i z v hz e2' (.inr hv)
       refine⟨u,ru,?_⟩
       rcases lk with ⟨q,_⟩ | ⟨_,k,ek,hk⟩
       ·exfalso
        have q':X.env.scope.names.lookup z=some .local:=q
        rcases hv with w | w<;>(rw[q'] at w;cases w)
       ·obtain⟨c',h1,_⟩:=z3k (z7d ek scope.names [] fr)
        have h2:=cells z c' h1
        rw[ek] at h2;cases h2
        refine .inr ⟨?_,k,h1,?_⟩
        ·rcases e3' with q | q | q
         ·exfalso
          obtain⟨k',hm,hk'⟩:=look0 q
          rcases hk' with rfl | ⟨_,hk'⟩
          ·exact hzy (c.only z (List.mem_of_getElem? hz) (c.names _ hm rfl))
          ·cases hk'
         ·exact .inl q
         ·exact .inr q
        ·obtain⟨o,ho',hd'⟩:=hk
         exact⟨o,old _ _ ho',hd'⟩
 ·obtain⟨v,o,ho',hd'⟩:=I.cell x k (cells x k e)
  exact⟨v,o,old _ _ ho',hd'⟩
 ·rcases List.mem_append.mp hp with q | q
  ·obtain⟨h1,h2,h3,h4,h5⟩:=I.pin p q
   refine⟨old _ _ h1,h2,Nat.ne_of_lt (Nat.lt_of_lt_of_le (Heap.lt_size h1) hC),fun z=>?_,h5⟩
   rcases List.mem_cons.mp (I.stkSub p.1 z) with q' | q'
   ·exact h3 q'
   ·exact h4 q'
  ·have e:p=(Dd,oD):=by simpa using q
   subst e
   exact⟨hd,I.hok.fresh hD,hDC,nstk Dd hD,hdd⟩
 ·show σ.length+1=(y::X.N.map _).length
  rw[List.length_cons,List.length_map,I.len]
noncomputable def w0h(X:Cx)(y:Str)(scope:Scope)(ifs:List Expr)(elt:Expr)(r:R (Option D))(C:Addr)(s₂:Shared)(H₂:Hp)(fp:List Addr)(pn pins:List (Addr×Obj))(s:Shared)(σ:St)(H:Hp)(F:List Addr):Prop :=
    wpAny (model X.prog X.w) X.A (forIn ifs true fun c r=>if r=true then do let ok <-isTrue c (compEnvC scope (capt X.env scope.names []) C X.env) (eval c (compEnvC scope (capt X.env scope.names []) C X.env));pure (ForInStep.yield ok) else pure (ForInStep.yield r)) (fun ok s₃ =>
     if ok=true then wpAny (model X.prog X.w) X.A (eval elt (compEnvC scope (capt X.env scope.names []) C X.env)) (fun u s₄=>∃e v H',r = .ok (some e)/\Inv (z0q X y scope C s₂ H₂ fp pn) pins σ H' s₄/\RelV v u/\Same H H'/\Is X.K (hid F H') e v) (fun _ _=>False) s₃
     else r = .ok none/\∃H',Inv (z0q X y scope C s₂ H₂ fp pn) pins σ H' s₃/\Same H H') (fun _ _=>False) s
structure PC1 (X:Cx) (y:Str) (scope:Scope) (ifs:List Expr) (elt:Expr) (f:D->G->R (Option D)):Prop where
 run:∀(C:Addr) (s₂:Shared) (H₂:Hp) (fp:List Addr) (pn:List (Addr×Obj)) (pins:List (Addr×Obj)) (s:Shared) (σ:St) (H:Hp) (F:List Addr) (Γ:G) (d:D),Inv (z0q X y scope C s₂ H₂ fp pn) pins σ H s->FOk H F->Rel X.K H F (.ro d::Γ) σ->(∃o,f d Γ = .ok o) ->
  wpAny (model X.prog X.w) X.A (forIn ifs true fun c r=>if r=true then do let ok <-isTrue c (compEnvC scope (capt X.env scope.names []) C X.env) (eval c (compEnvC scope (capt X.env scope.names []) C X.env));pure (ForInStep.yield ok) else pure (ForInStep.yield r)) (fun ok s₃ =>
   if ok=true then wpAny (model X.prog X.w) X.A (eval elt (compEnvC scope (capt X.env scope.names []) C X.env)) (fun u s₄=>∃e v H',f d Γ = .ok (some e)/\Inv (z0q X y scope C s₂ H₂ fp pn) pins σ H' s₄/\RelV v u/\Same H H'/\Is X.K (hid F H') e v) (fun _ _=>False) s₃
   else f d Γ = .ok none/\∃H',Inv (z0q X y scope C s₂ H₂ fp pn) pins σ H' s₃/\Same H H') (fun _ _=>False) s
theorem z6t{elt:Expr}{ge:G->R D}(he:∀C s₂ H₂ fp pn,PDr (z0q X y scope C s₂ H₂ fp pn) elt ge):PC1 X y scope [] elt (fElt ge):=by
 refine⟨fun C s₂ H₂ fp pn pins s σ H F Γ d I fo rl ⟨o,eo⟩=>?_⟩
 refine wpAny_tests_nil ?_
 rw[if_pos rfl]
 have hne:ge (.ro d::Γ) ≠ .no:=fun z=>by unfold fElt at eo;rw[z] at eo;cases eo
 refine wpAny_mono ((he C s₂ H₂ fp pn).run pins s σ H F (.ro d::Γ) I fo rl hne) (fun u s4 ⟨e,v,H',e1,I',rv,S,iv⟩=>⟨e,v,H',R.step e1 _,I',rv,S,iv⟩) fun x s' ⟨c,H',e1,_⟩=>?_
 unfold fElt at eo;rw[e1] at eo;cases eo
theorem x5q{elt c:Expr}{gc:G->R Bool}{ge:G->R D}(hc:∀C s₂ H₂ fp pn,PTD (z0q X y scope C s₂ H₂ fp pn) c gc)(he:∀C s₂ H₂ fp pn,PDr (z0q X y scope C s₂ H₂ fp pn) elt ge):PC1 X y scope [c] elt (z8c gc ge):=by
 refine⟨fun C s₂ H₂ fp pn pins s σ H F Γ d I fo rl ⟨o,eo⟩=>?_⟩
 have hne:gc (.ro d::Γ) ≠ .no:=fun z=>by unfold z8c at eo;rw[z] at eo;cases eo
 refine wpAny_tests_one (wpAny_mono ((hc C s₂ H₂ fp pn).run pins s σ H F (.ro d::Γ) I fo rl hne) (fun k s3 ⟨H1,e1,I1,S1⟩=>?_) fun x s' ⟨c',H',e1,_⟩=>?_)
 ·have eo':(if k=true then ge (.ro d::Γ)>>=fun e=>R.ok (some e) else .ok none) = .ok o:=by
   unfold z8c at eo;rw[e1] at eo;exact eo
  cases k with
  | false =>
    rw[if_neg Bool.false_ne_true]
    exact⟨R.step e1 _,H1,I1,S1⟩
  | true =>
    rw[if_pos rfl] at eo' ⊢
    have hne2:ge (.ro d::Γ) ≠ .no:=fun z=>by rw[z] at eo';cases eo'
    refine wpAny_mono ((he C s₂ H₂ fp pn).run pins s3 σ H1 F (.ro d::Γ) I1 (fo.same S1) (rl.same S1) hne2) (fun u s4 ⟨e,v,H',e2,I',rv,S,iv⟩=>⟨e,v,H',(R.step e1 _).trans (R.step e2 _),I',rv,S1.trans S,iv⟩) fun x s' ⟨c',H',e2,_⟩=>?_
    rw[e2] at eo';cases eo'
 ·unfold z8c at eo;rw[e1] at eo;cases eo
theorem x1y{K:PySem.W.Frag}{H:Hp}{F:List Addr}{Γ:G}{σ:St}{d:D}{v:V}(r:Rel K H F Γ σ)(i:Is K (hid F H) d v):Rel K H F (.ro d::Γ) (some v::σ) where
 len:=by rw[List.length_cons,List.length_cons,r.len]
 ro:=fun j d' h=>by
  cases j with
  | zero=>simp at h;cases h;exact⟨v,rfl,i⟩
  | succ j=>exact r.ro j d' (by simpa using h)
 own:=fun j ds h=>by
  cases j with
  | zero=>simp at h
  | succ j=>exact r.own j ds (by simpa using h)
 inj:=fun j k ds es a h1 h2 h3 h4=>by
  cases j with
  | zero=>simp at h1
  | succ j =>
    cases k with
    | zero=>simp at h2
    | succ k=>rw[r.inj j k ds es a (by simpa using h1) (by simpa using h2) (by simpa using h3) (by simpa using h4)]
theorem sb1{n a i:Nat}(e:n=a-i)(h:i<a):a-(i+1)<n:=by lia
theorem sb2{a c d:Nat}(h:c=d+1)(e:a=d):(d≠c/\a<=c/\a<=d)/\∀b,b<a->b≠c/\b≠d:=⟨⟨by lia,by lia,by lia⟩,fun b hb=>⟨by lia,by lia⟩⟩
theorem y3g{elt iter:Expr}{px pos:Pos}{ifs:List Expr}{f:D->G->R (Option D)}{pins:List (Addr×Obj)}{σ:St}{H₂:Hp}{s₂:Shared}{F:List Addr}{Γ:G}{items:List D}{it:Addr}{fp:List Addr}{tn:Nat->Heap->Prop}{J:It}{E:Value->Shared->Prop}{total:List D}
 (hp:∀(C:Addr) (ps:List (Addr×Obj)) (s:Shared) (x:V) (H:Hp) (d:D),Inv (z0q X y scope C s₂ H₂ fp (X.pn++pins)) ps (some x::σ) H s->Same H₂ H->FOk H F->Rel X.K H F (.ro d::Γ) (some x::σ)->(∃o,f d Γ = .ok o)->w0h X y scope ifs elt (f d Γ) C s₂ H₂ fp (X.pn++pins) ps s (some x::σ) H F)
 (c:CompOk X.N X.env y scope) (hN:X.N.Nodup) (hcalm:X.calm=true) (I:Inv X pins σ H₂ s₂) (fo:FOk H₂ F) (rl:Rel X.K H₂ F Γ σ) (T:Turn X.prog X.w X.K (.Name y px) J fp it tn) (t0:tn 0 s₂.heap) (hf:∀b∈fp,FpOk X pins H₂ b) (hj:JC X.K H₂ F J items)
 (ht:z1k (fun d=>f d Γ) items [] = .ok total) (hl:items.length<=100000) {RR:Value->Addr->Result->Shared->Prop}
 (hR:∀(Dd C:Addr) (xs:List V) (H':Hp) (m:Str->Option Value) (s':Shared),s₂.heap.objs.size<=C->Dd≠C->H₂ Dd=none->H' Dd=none->H' C=none->s₂.heap.objs.size<=Dd->Same H₂ H'->IsAll X.K (hid F H') total xs->Inv X pins σ (upd H' Dd (.lst xs)) s'->s'.heap.Ns C m->RR (.ref Dd) C (.ok .next) s') :
 wpAny (model X.prog X.w) X.A (newList []) (fun acc s₃=>wpAny (model X.prog X.w) X.A (newFunctionEnv scope X.env.globals (capt X.env scope.names []) [] X.env.qual none .none (some X.env)) (fun cenv s₄ =>
  codeAny (model X.prog X.w) X.A (.compStart (.ListComp elt [⟨.Name y px,iter,ifs,0⟩] scope pos) 0 (.ref it) acc { cenv with scope:=relabel scope X.env }) (RR acc cenv.locals) s₄) E s₃) E s₂:=by
 have ho:∀b∈fp,b<s₂.heap.objs.size:=fun b hb=>by obtain⟨o,e,_⟩:=T.obj _ _ t0 b hb;exact Heap.lt_size e
 refine wpAny_newObj_type (wpAny_newFunctionEnv c.nocell (by intro y hy;simp at hy) (fun h₁ hns₁ hsb₁=>?_) c.kind)
 dsimp only at hns₁ hsb₁ ⊢
 generalize hH2:s₂.heap.push { cls:=.type "list",dict:=none,data:=.seq ([]:List Value).toArray }=H2 at hns₁ hsb₁ ⊢
 have hCs:H2.objs.size=s₂.heap.objs.size+1:=by rw[<-hH2,Heap.size_push]
 generalize hCC:H2.objs.size=C at hns₁ hsb₁ hCs ⊢
 generalize hDD:s₂.heap.objs.size=Dd at hCs ⊢
 obtain⟨⟨hDC,hC,hD⟩,below⟩:=sb2 hCs hDD
 have old:∀b o,s₂.heap.get? b=some o->h₁.get? b=some o:=fun b o e=>by
  refine hsb₁.extBut b o (below b (Heap.lt_size e)).1 ?_
  exact Heap.get?_push_of_some _ (hH2 ▸ Heap.get?_push_of_some _ e)
 have hacc:h₁.get? Dd=some { cls:=.type "list",dict:=none,data:=.seq ([]:List Value).toArray }:=by
  refine hsb₁.extBut _ _ hDC ?_
  refine Heap.get?_push_of_some _ ?_
  rw[<-hH2,<-hDD]
  exact Heap.get?_push_size _ rfl
 have J0:∀tk,Inv (z0q X y scope C s₂ H₂ fp (X.pn++pins)) [(Dd,{ cls:=.type "list",dict:=none,data:=.seq ([]:List Value).toArray })] (none::σ) H₂ { s₂ with heap:=h₁,toks:=tk }:=fun tk =>
  y0p I c hC hD hDC hf ho old hns₁ hacc (fun v z=>nomatch z)
 have t1:tn 0 h₁:=T.keep _ _ _ t0 fun b hb o e=>old b o e
 have fpY:∀{H':Hp} {o:Obj},(∀b∈fp,H' b=none)->∀b∈fp,FpOk (z0q X y scope C s₂ H₂ fp (X.pn++pins)) [(Dd,o)] H' b:=fun {H' o} hn b hb=>by
  obtain⟨f0,f1,f2,f3,f4,f5⟩:=hf b hb
  have lt:=ho b hb
  refine⟨hn b hb,(below b lt).1,fun z=>?_,.inl hb,fun x k e=>?_,fun p hp'=>?_⟩
  ·rcases List.mem_cons.mp (I.stkSub b z) with q | q
   ·exact f1 q
   ·exact f2 q
  ·rcases z3o scope.names [] (PySem.mem_of_lookup e) with q | q
   ·simp at q
   ·exact f4 x k q
  ·rcases List.mem_append.mp hp' with q | q
   ·exact f5 p q
   ·have e:p=(Dd,o):=by simpa using q
    subst e
    exact Ne.symm (below b lt).2
 have NdY:(z0q X y scope C s₂ H₂ fp (X.pn++pins)).N.Nodup:=by
  show(y::X.N.map (fun z=>if z=y then ("":Str) else z)).Nodup
  refine List.nodup_cons.mpr ⟨fun z=>?_,?_⟩
  ·obtain⟨z',hz,e⟩:=List.mem_map.mp z
   by_cases q:z'=y
   ·rw[if_pos q] at e
    subst e
    have:=c.loc;rw[c.nil] at this;cases this
   ·rw[if_neg q] at e;exact q e
  ·have inj:∀a∈X.N,∀b∈X.N,(if a=y then ("":Str) else a)=(if b=y then ("":Str) else b)->a=b:=fun a ha b hb e=>by
    by_cases qa:a=y
    ·by_cases qb:b=y
     ·rw[qa,qb]
     ·rw[if_pos qa,if_neg qb] at e;exact absurd e.symm (c.none b hb)
    ·by_cases qb:b=y
     ·rw[if_neg qa,if_pos qb] at e;exact absurd e (c.none a ha)
     ·rw[if_neg qa,if_neg qb] at e;exact e
   have gen:∀l:List Str,(∀a∈l,a∈X.N)->l.Nodup->(l.map (fun z=>if z=y then ("":Str) else z)).Nodup:=by
    intro l
    induction l with
    | nil=>intro _ _;exact List.nodup_nil
    | cons a l ih =>
      intro hs nd
      obtain⟨n1,n2⟩:=List.nodup_cons.mp nd
      rw[List.map_cons]
      refine List.nodup_cons.mpr ⟨fun z=>?_,ih (fun b hb=>hs b (List.mem_cons_of_mem _ hb)) n2⟩
      obtain⟨b,hb,e⟩:=List.mem_map.mp z
      exact n1 (inj b (hs b (List.mem_cons_of_mem _ hb)) a (hs a List.mem_cons_self) e ▸ hb)
   exact gen X.N (fun _ h=>h) hN
 let L:Nat->Shared->Prop:=fun n s'=>∃(i:Nat) (H':Hp) (o:Option V) (xs:List V) (its:List Value) (acc:List D) (k:Nat),n=items.length-i/\i<=items.length/\Inv (z0q X y scope C s₂ H₂ fp (X.pn++pins)) [(Dd,{ cls:=.type "list",dict:=none,data:=.seq its.toArray k })] (o::σ) H' s' /\
  Same H₂ H'/\(∀b∈fp,H' b=none)/\tn i s'.heap/\Vals xs its/\acc.length<=i/\IsAll X.K (hid F H') acc xs/\z1k (fun d=>f d Γ) (items.drop i) acc = .ok total
 have loop:∀s₄:Shared,L items.length s₄->codeAny (model X.prog X.w) X.A (.compLoop (.ListComp elt [⟨.Name y px,iter,ifs,0⟩] scope pos) 0 (.ref it) (.ref Dd) (compEnvC scope (capt X.env scope.names []) C X.env)) (RR (.ref Dd) C) s₄:=fun s₄ h4=>by
  refine codeAny_compLoop_tests L (fun n s' hL=>wpAny_mono (E:=fun _ _=>False) ?_ (fun _ _ q=>q) fun _ _ z=>z.elim) items.length h4
  obtain⟨i,H',o,xs,its,acc,k,en,hi,J',S',fr',tn',rv,hal,ia,eg⟩:=hL
  obtain⟨jgo,jstop⟩:=hj H' S'
  have hpD:=J'.pin (Dd,{ cls:=.type "list",dict:=none,data:=.seq its.toArray k }) (List.mem_append_right _ (by simp))
  have hxl:xs.length<=100000:=by rw[<-ia.length];exact Nat.le_trans hal (Nat.le_trans hi hl)
  have hsl:(100000:Nat)<=sizeLine:=by rw[sizeLine_eq];decide
  by_cases hlt:i<items.length
  ·obtain⟨go,yl⟩:=jgo i hlt
   refine thn (T.item (z0q X y scope C s₂ H₂ fp (X.pn++pins)) rfl rfl rfl hcalm i _ s' _ H' (fun _ _=>False) J' (fpY fr') tn' go) fun r s2 ⟨u,hr,h1⟩=>?_
   subst hr
   refine y2a (a:=()) h1 fun⟨x,H5,J5,r5,y5,st5,fr5⟩=>?_
   obtain⟨e5,d,ed,iv⟩:=yl x H5 y5
   subst e5
   have J5':=J5.pinned (fpY fr5) (T.obj _ _ st5)
   have hdrop:items.drop i=d::items.drop (i+1):=by
    rw[List.drop_eq_getElem_cons hlt]
    have:items[i]=d:=by
     have:=List.getElem?_eq_getElem hlt
     rw[ed] at this;exact(Option.some.inj this).symm
    rw[this]
   rw[hdrop] at eg
   have hfo:∃od,f d Γ = .ok od/\(match od with | some e=>z1k (fun d=>f d Γ) (items.drop (i+1)) (acc++[e]) | none=>z1k (fun d=>f d Γ) (items.drop (i+1)) acc) = .ok total:=by
    unfold z1k at eg
    cases q:f d Γ with
    | no=>simp only[q] at eg;cases eg
    | er c'=>simp only[q] at eg;cases eg
    | ok od =>
      refine⟨od,rfl,?_⟩
      cases od with
      | none=>simp only[q] at eg;exact eg
      | some e=>simp only[q] at eg;exact eg
   obtain⟨od,eod,etot⟩:=hfo
   have hpg:PG (z0q X y scope C s₂ H₂ fp (X.pn++pins)).nox (.Name y px) (x2w 0):=y4g (X:=(z0q X y scope C s₂ H₂ fp (X.pn++pins)).nox) NdY rfl (.inl (lookup_relabel_local c.loc)) (.inr (lookup_relabel_local c.loc))
   refine wpAny_mono (hpg _ s2 (o::σ) H5 x u (fun σ' H'=>σ'=some x::σ/\H'=H5) (J5'.wish _) r5 ⟨rfl,rfl⟩) (fun _ s3 ⟨σ6,H6,J6,e6,e6'⟩=>?_) fun _ _ z=>z.elim
   subst e6 e6'
   have J6':=J6.unwish
   have fo6:=fo.same S'
   refine wpAny_mono (hp C _ s3 x H6 d J6' S' fo6 (x1y (rl.same S') iv) ⟨od,eod⟩) (fun ok s4 h4=>?_) fun _ _ z=>z.elim
   have back:∀{s5:Shared} {H7:Hp} {σ7:St},Inv (z0q X y scope C s₂ H₂ fp (X.pn++pins)) ([(Dd,{ cls:=.type "list",dict:=none,data:=.seq its.toArray k })]++y0h fp s2.heap) σ7 H7 s5->tn (i+1) s5.heap/\(∀b∈fp,H7 b=none):=fun {s5 H7 σ7} J7=>by
    refine⟨T.keep _ _ _ st5 fun b hb o' e=>(J7.pin (b,o') (List.mem_append_right _ (List.mem_append_right _ (z3p hb e)))).1,fun b hb=>?_⟩
    obtain⟨o',e,dd⟩:=T.obj _ _ st5 b hb
    exact(J7.pin (b,o') (List.mem_append_right _ (List.mem_append_right _ (z3p hb e)))).2.1
   cases ok with
   | false =>
     rw[if_neg Bool.false_ne_true] at h4 ⊢
     obtain⟨ef,H7,J7,S7⟩:=h4
     rw[eod] at ef;cases ef
     obtain⟨tn7,fr7⟩:=back J7
     exact⟨items.length-(i+1),sb1 en hlt,i+1,H7,some x,xs,its,acc,k,rfl,hlt,J7.unpinned,S'.trans S7,fr7,tn7,rv,Nat.le_succ_of_le hal,ia.same (z2b S7),etot⟩
   | true =>
     rw[if_pos rfl] at h4 ⊢
     refine wpAny_mono h4 (fun u7 s5 ⟨e,v7,H7,ef,J7,r7,S7,iv7⟩=>?_) fun _ _ z=>z.elim
     rw[eod] at ef;cases ef
     obtain⟨tn7,fr7⟩:=back J7
     have J8:=J7.unpinned
     have hpD7:=J8.pin (Dd,{ cls:=.type "list",dict:=none,data:=.seq its.toArray k }) (List.mem_append_right _ (by simp))
     have hlen:its.length=acc.length:=by rw[<-rv.length,<-ia.length]
     refine wpAny_list_append_plain (l:=Dd) (items:=its.toArray) (x:=u7) ⟨k,hpD7.1⟩ (fun h' hl' hs'=>?_) (by rw[List.size_toArray,<-rv.length];exact Nat.le_trans hxl hsl)
     obtain⟨k',hk'⟩:=hl'
     have epush:its.toArray.push u7=(its++[u7]).toArray:=by simp
     rw[epush] at hk'
     have J9:Inv (z0q X y scope C s₂ H₂ fp (X.pn++pins)) [] (some x::σ) H7 s5:=J8.pins_of fun p hp'=>by simp at hp'
     have J10:Inv (z0q X y scope C s₂ H₂ fp (X.pn++pins)) [] (some x::σ) H7 { s5 with heap:=h' }:=J9.turned (t':=s5.toks) (it:=Dd) (fun b o' hb e'=>(hs'.2 b hb).trans e') hpD7.2.1 hDC (.inr hD) (fun x' k'' e' z=>by
      rcases z3o scope.names [] (PySem.mem_of_lookup e') with q | q
      ·simp at q
      ·obtain⟨v',o',ho',_⟩:=I.cell x' k'' q
       exact(below k'' (Heap.lt_size ho')).2 z) (fun p hp' z=>by
      rcases List.mem_append.mp hp' with q | q
      ·obtain⟨h1',_⟩:=I.pin p q
       exact(below p.1 (Heap.lt_size h1')).2 z
      ·simp at q)
     have J11:Inv (z0q X y scope C s₂ H₂ fp (X.pn++pins)) [(Dd,{ cls:=.type "list",dict:=none,data:=.seq (its++[u7]).toArray k' })] (some x::σ) H7 { s5 with heap:=h' }:=J10.pins_of fun p hp'=>by
      have e':p=(Dd,{ cls:=.type "list",dict:=none,data:=.seq (its++[u7]).toArray k' }):=by simpa using hp'
      subst e'
      exact⟨hk',hpD7.2.1,hDC,hpD7.2.2.2.1,fun v z=>nomatch z⟩
     refine⟨items.length-(i+1),sb1 en hlt,i+1,H7,some x,xs++[v7],its++[u7],acc++[e],k',rfl,hlt,J11,S'.trans S7,fr7,T.keep _ _ _ tn7 fun b hb o' e'=>(hs'.2 b (below b (ho b hb)).2).trans e',rv.append (.cons r7 .nil),by rw[List.length_append,List.length_singleton];exact Nat.succ_le_succ hal,(ia.same (z2b S7)).append (IsAll.cons iv7 IsAll.nil),etot⟩
  ·have hi':i=items.length:=Nat.le_antisymm hi (Nat.le_of_not_lt hlt)
   subst hi'
   refine thn (T.done (z0q X y scope C s₂ H₂ fp (X.pn++pins)) rfl rfl rfl hcalm _ _ s' _ H' (fun _ _=>False) J' (fpY fr') tn' jstop) fun r s1 ⟨hr,J1⟩=>?_
   subst hr
   have hpD1:=J1.pin (Dd,{ cls:=.type "list",dict:=none,data:=.seq its.toArray k }) (List.mem_append_right _ (by simp))
   rw[List.drop_length] at eg
   have:acc=total:=by unfold z1k at eg;cases eg;rfl
   subst this
   obtain⟨mC,hnC,_⟩:=J1.loc
   exact hR Dd C xs H' mC s1 hC hDC (I.hok.fresh hD) hpD1.2.1 J1.free hD S' ia (y3f I J1 hD hpD1.2.1 hpD1.1 rv (Nat.le_trans hxl hsl) hf) hnC
 have L0:∀tk,L items.length { s₂ with heap:=h₁,toks:=tk }:=fun tk=>⟨0,H₂,none,[],[],[],_,rfl,Nat.zero_le _,J0 tk,.refl _,fun b hb=>(hf b hb).1,t1,.nil,Nat.le_refl _,IsAll.nil,by rw[List.drop_zero];exact ht⟩
 exact codeAny_compStart_list (loop _ (L0 _)) (T.self _ 0 _ _ _ t1 (loop _ (L0 _)))
theorem z4m{elt iter:Expr}{px pos:Pos}{ifs:List Expr}{f:D->G->R (Option D)}{gi:G->R (List D)}(hi:PIC X (.Name y px) iter gi)(hp:PC1 X y scope ifs elt f)(hN:X.N.Nodup)(hcalm:X.calm=true)
 (chk:z9u X.N X.env y scope=true:=by rfl) (hclos:closureFor scope X.env=pure (capt X.env scope.names []):=by rfl) (hs:∀x,foldedSetIterable iter X.env x=pure x:=by intro _;rfl) :
 PF X (.ListComp elt [⟨.Name y px,iter,ifs,0⟩] scope pos) (z2q gi f):=by
 refine⟨fun pins s σ H F Γ I fo rl hg=>?_⟩
 have c:=z9r chk
 rw[eval_ListComp]
 refine wpAny_comprehension_free (use:=none) rfl hs hclos c.kind c.names (wpAny_mono (hi.run pins s σ H F Γ I fo rl (R.left hg)) (fun xv s₁ h₁=>wpAny_mono h₁ (fun itv s₂ h₂=>?_) fun _ _ x=>x.bind _) fun _ _ x=>x.bind _)
 obtain⟨items,it,fp,tn,J,H₂,e1,rfl,I2,S2,T,t0,fk,jc⟩:=h₂
 have hgx:=R.next hg e1
 obtain⟨hl,e2⟩:=R.guard_ne hgx
 have hne:z1k (fun d=>f d Γ) items [] ≠ .no:=by
  have:=R.next hg e1
  rw[e2] at this;exact this
 obtain⟨total,et⟩:=z9s hne
 refine y3g (RR:=fun acc C=>compPost (model X.prog X.w) X.A _ none _ acc C) (fun C ps s x H d J _ fo rl e=>hp.run C s₂ H₂ fp (X.pn++pins) ps s _ H F Γ d J fo rl e) c hN hcalm I2 (fo.same S2) (rl.same S2) T t0 fk jc et hl ?_
 intro Dd C xs H' m s' hC hDC hn hn' hnC hD S' ia I' hnsC
 refine⟨m,hnsC,fun h'' hs''=>?_⟩
 have nlt:∀{b:Addr} {o:Obj},s₂.heap.get? b=some o->b≠C:=fun e=>Nat.ne_of_lt (Nat.lt_of_lt_of_le (Heap.lt_size e) hC)
 have I'':Inv X pins σ (upd H' Dd (.lst xs)) { s' with heap:=h'' }:=I'.turned (t':=s'.toks) (it:=C) (fun b o hb e=>hs''.extBut b o hb e) (by rw[z0s (Ne.symm hDC)];exact hnC) (Nat.ne_of_gt (Nat.lt_of_lt_of_le I2.lt hC)) (.inr (Nat.le_trans I2.sz hC))
  (fun x k e=>by obtain⟨v,o,ho,_⟩:=I2.cell x k e;exact nlt ho) (fun p hp'=>nlt (I2.pin p hp').1)
 have S3:=z1h hn' (.lst xs)
 refine⟨total,Dd,xs,_,(R.step e1 _).trans (e2.trans et),I'',rfl,(S2.trans S').trans S3,S2.free hn,z0l,ia.same fun b o hb=>?_⟩
 obtain⟨z1,z2⟩:=z1e hb
 have hbl:b≠Dd:=z0y z2 hn'
 rw[z0k fun z=>(List.mem_cons.mp z).elim hbl z1,z0s hbl]
 exact z2
end
noncomputable def NxP(X:Cx)(pins:List (Addr×Obj))(H:Hp)(F:List Addr)(Γ:G)(s':Shared):Prop:=∃σ' H' F',Inv X pins σ' H' s'/\FOk H' F'/\Rel X.K H' F' Γ σ'/\Ext H F H' F'
noncomputable def RtP(X:Cx)(pins:List (Addr×Obj))(H:Hp)(F:List Addr)(r:R Fl)(u:Value)(s':Shared):Prop:=∃v σ' H' F',Inv X pins σ' H' s'/\RelV v u/\Ext H F H' F' /\
 ((∃d,r = .ok (.rt d)/\Is X.K H' d v)∨∃ds a xs,r = .ok (.rtF ds)/\v = .ref a/\(a∈F∨H a=none)/\H' a=some (.lst xs)/\IsAll X.K H' ds xs)
theorem RtP.map{X:Cx}{pins pins':List (Addr×Obj)}{H H1:Hp}{F F1:List Addr}{r r':R Fl}{u:Value}{s':Shared}(h:RtP X pins H1 F1 r u s')(E:Ext H F H1 F1)(hI:∀σ' H',Inv X pins σ' H' s'->Inv X pins' σ' H' s')
 (h1:∀d,r = .ok (.rt d)->r' = .ok (.rt d)) (h2:∀ds,r = .ok (.rtF ds)->r' = .ok (.rtF ds)):RtP X pins' H F r' u s':=by
 obtain⟨v,σ',H',F',I,rv,E',q⟩:=h
 refine⟨v,σ',H',F',hI _ _ I,rv,E.trans E',?_⟩
 rcases q with ⟨d,e,i⟩ | ⟨ds,a,xs,e,ev,hn,ha,i⟩
 ·exact .inl ⟨d,h1 d e,i⟩
 ·refine .inr ⟨ds,a,xs,h2 ds e,ev,?_,ha,i⟩
  rcases hn with z | z
  ·exact E.old a z
  ·by_cases c:a∈F
   ·exact .inl c
   ·refine .inr ?_
    cases q:H a with
    | none=>rfl
    | some o=>rw[E.keep a o c q] at z;cases z
noncomputable def FlP(X:Cx)(pins:List (Addr×Obj))(H:Hp)(F:List Addr)(r:R Fl)(fl:Flow)(s':Shared):Prop:=match fl with
 | .next=>∃Γ',r = .ok (.nx Γ')/\NxP X pins H F Γ' s'
 | .brk=>∃Γ',r = .ok (.bk Γ')/\NxP X pins H F Γ' s'
 | .cont=>∃Γ',r = .ok (.ct Γ')/\NxP X pins H F Γ' s'
 | .ret u=>RtP X pins H F r u s'
noncomputable def FlX(X:Cx)(pins:List (Addr×Obj))(H:Hp)(F:List Addr)(r:R Fl)(x:Value)(s':Shared):Prop:=∃c Γ' σ' H' F',r = .ok (.ex c Γ')/\y3s X pins σ' H' c x s'/\FOk H' F'/\Rel X.K H' F' Γ' σ'/\Ext H F H' F'
structure PQ (X:Cx) (st:Stmt) (g:G->R Fl):Prop where
 run:∀(pins:List (Addr×Obj)) (s:Shared) (σ:St) (H:Hp) (F:List Addr) (Γ:G),Inv X pins σ H s->FOk H F->Rel X.K H F Γ σ->g Γ ≠ .no ->
  wpAny (model X.prog X.w) X.A (exec st X.env) (FlP X pins H F (g Γ)) (FlX X pins H F (g Γ)) s
structure PQs (X:Cx) (st:List Stmt) (g:G->R Fl):Prop where
 run:∀(pins:List (Addr×Obj)) (s:Shared) (σ:St) (H:Hp) (F:List Addr) (Γ:G),Inv X pins σ H s->FOk H F->Rel X.K H F Γ σ->g Γ ≠ .no ->
  wpAny (model X.prog X.w) X.A (execs st X.env) (FlP X pins H F (g Γ)) (FlX X pins H F (g Γ)) s
theorem FlP.later{X:Cx}{pins:List (Addr×Obj)}{H H1:Hp}{F F1:List Addr}{r:R Fl}{fl:Flow}{s':Shared}(E:Ext H F H1 F1)(h:FlP X pins H1 F1 r fl s'):FlP X pins H F r fl s':=by
 cases fl with
 | next=>obtain⟨Γ',e,σ',H',F',h1,h2,h3,h4⟩:=h;exact⟨Γ',e,σ',H',F',h1,h2,h3,E.trans h4⟩
 | brk=>obtain⟨Γ',e,σ',H',F',h1,h2,h3,h4⟩:=h;exact⟨Γ',e,σ',H',F',h1,h2,h3,E.trans h4⟩
 | cont=>obtain⟨Γ',e,σ',H',F',h1,h2,h3,h4⟩:=h;exact⟨Γ',e,σ',H',F',h1,h2,h3,E.trans h4⟩
 | ret u=>exact RtP.map h E (fun _ _ I=>I) (fun _ e=>e) fun _ e=>e
theorem FlX.later{X:Cx}{pins:List (Addr×Obj)}{H H1:Hp}{F F1:List Addr}{r:R Fl}{x:Value}{s':Shared}(E:Ext H F H1 F1)(h:FlX X pins H1 F1 r x s'):FlX X pins H F r x s':=by
 obtain⟨c,Γ',σ',H',F',e,h1,h2,h3,h4⟩:=h
 exact⟨c,Γ',σ',H',F',e,h1,h2,h3,E.trans h4⟩
theorem z1a.lift{α:Type}{X:Cx}{pins:List (Addr×Obj)}{σ:St}{H:Hp}{F:List Addr}{Γ:G}{r:R α}{x:Value}{s':Shared}(fo:FOk H F)(rl:Rel X.K H F Γ σ)(h:z1a X pins σ H r x s')(k:α->R Fl):FlX X pins H F (lift r Γ k) x s':=by
 obtain⟨c,H',e,S,fl⟩:=h
 exact⟨c,Γ,σ,H',F,by rw[e];rfl,fl,fo.same S,rl.same S,.of_same S⟩
theorem Rel.set_ro{K:PySem.W.Frag}{H:Hp}{F:List Addr}{Γ:G}{σ:St}{i:Nat}{d:D}{v:V}(r:Rel K H F Γ σ)(iv:Is K (hid F H) d v):Rel K H F (Γ.set i (.ro d)) (σ.set i (some v)) where
 len:=by rw[List.length_set,List.length_set,r.len]
 ro:=fun j d' h=>by
  by_cases e:i=j
  ·subst e
   by_cases hi:i<Γ.length
   ·rw[List.getElem?_set_self hi] at h;cases h
    exact⟨v,List.getElem?_set_self (by rw[<-r.len];exact hi),iv⟩
   ·rw[List.getElem?_eq_none (by rw[List.length_set];lia)] at h;cases h
  ·rw[List.getElem?_set_ne e] at h
   rw[List.getElem?_set_ne e]
   exact r.ro j d' h
 own:=fun j ds h=>by
  by_cases e:i=j
  ·subst e
   by_cases hi:i<Γ.length
   ·rw[List.getElem?_set_self hi] at h;cases h
   ·rw[List.getElem?_eq_none (by rw[List.length_set];lia)] at h;cases h
  ·rw[List.getElem?_set_ne e] at h
   rw[List.getElem?_set_ne e]
   exact r.own j ds h
 inj:=fun j k ds es a h1 h2 h3 h4=>by
  by_cases ej:i=j
  ·subst ej
   by_cases hi:i<Γ.length
   ·rw[List.getElem?_set_self hi] at h1;cases h1
   ·rw[List.getElem?_eq_none (by rw[List.length_set];lia)] at h1;cases h1
  ·by_cases ek:i=k
   ·subst ek
    by_cases hi:i<Γ.length
    ·rw[List.getElem?_set_self hi] at h2;cases h2
    ·rw[List.getElem?_eq_none (by rw[List.length_set];lia)] at h2;cases h2
   ·rw[List.getElem?_set_ne ej] at h1 h3
    rw[List.getElem?_set_ne ek] at h2 h4
    exact r.inj j k ds es a h1 h2 h3 h4
theorem Rel.set_own{K:PySem.W.Frag}{H H':Hp}{F:List Addr}{Γ:G}{σ:St}{i:Nat}{ds:List D}{xs:List V}{a:Addr}(r:Rel K H F Γ σ)(fo:FOk H F)(S:Same H H')(hn:H a=none)(ha:H' a=some (.lst xs))(iv:IsAll K (hid (a::F) H') ds xs):Rel K H' (a::F) (Γ.set i (.own ds)) (σ.set i (some (.ref a))) where
 len:=by rw[List.length_set,List.length_set,r.len]
 ro:=fun j d' h=>by
  by_cases e:i=j
  ·subst e
   by_cases hi:i<Γ.length
   ·rw[List.getElem?_set_self hi] at h;cases h
   ·rw[List.getElem?_eq_none (by rw[List.length_set];lia)] at h;cases h
  ·rw[List.getElem?_set_ne e] at h
   rw[List.getElem?_set_ne e]
   obtain⟨v,h1,h2⟩:=r.ro j d' h
   exact⟨v,h1,h2.same (y4u S hn)⟩
 own:=fun j ds' h=>by
  by_cases e:i=j
  ·subst e
   by_cases hi:i<Γ.length
   ·rw[List.getElem?_set_self hi] at h;cases h
    exact⟨a,xs,List.getElem?_set_self (by rw[<-r.len];exact hi),List.mem_cons_self,ha,iv⟩
   ·rw[List.getElem?_eq_none (by rw[List.length_set];lia)] at h;cases h
  ·rw[List.getElem?_set_ne e] at h
   rw[List.getElem?_set_ne e]
   obtain⟨b,ys,h1,h2,h3,h4⟩:=r.own j ds' h
   exact⟨b,ys,h1,List.mem_cons_of_mem _ h2,S _ _ h3,h4.same (y4u S hn)⟩
 inj:=fun j k ds' es b h1 h2 h3 h4=>by
  have nF:∀(l:Nat) (es':List D),i≠l->Γ[l]? = some (.own es')->σ[l]? ≠ some (some (.ref a)):=fun l es' _ h z=>by
   obtain⟨b',ys,q1,q2,q3,_⟩:=r.own l es' h
   rw[z] at q1;cases q1
   rw[hn] at q3;cases q3
  by_cases ej:i=j
  ·by_cases ek:i=k
   ·rw[<-ej,<-ek]
   ·exfalso
    subst ej
    have hi:i<σ.length:=by
     by_cases hi:i<σ.length
     ·exact hi
     ·rw[List.getElem?_eq_none (by rw[List.length_set];lia)] at h3;cases h3
    rw[List.getElem?_set_self hi] at h3;cases h3
    rw[List.getElem?_set_ne ek] at h2 h4
    exact nF k es ek h2 h4
  ·by_cases ek:i=k
   ·exfalso
    subst ek
    have hi:i<σ.length:=by
     by_cases hi:i<σ.length
     ·exact hi
     ·rw[List.getElem?_eq_none (by rw[List.length_set];lia)] at h4;cases h4
    rw[List.getElem?_set_self hi] at h4;cases h4
    rw[List.getElem?_set_ne ej] at h1 h3
    exact nF j ds' ej h1 h3
   ·rw[List.getElem?_set_ne ej] at h1 h3
    rw[List.getElem?_set_ne ek] at h2 h4
    exact r.inj j k ds' es b h1 h2 h3 h4
theorem Rel.put{K:PySem.W.Frag}{H:Hp}{F:List Addr}{Γ:G}{σ:St}{i:Nat}{ds ds':List D}{xs':List V}{a:Addr}(r:Rel K H F Γ σ)(e:Γ[i]? = some (.own ds))(ea:σ[i]? = some (some (.ref a)))(iv:IsAll K (hid F H) ds' xs'):Rel K (upd H a (.lst xs')) F (Γ.set i (.own ds')) σ/\a∈F:=by
 obtain⟨a',xs,h1,hF,h3,h4⟩:=r.own i ds e
 rw[ea] at h1;cases h1
 have hh:hid F (upd H a (.lst xs'))=hid F H:=by
  funext b
  by_cases hb:b∈F
  ·rw[z7u hb,z7u hb]
  ·rw[z0k hb,z0k hb,z0s (fun z=>hb (by rw[z];exact hF))]
 have hi:i<Γ.length:=(List.getElem?_eq_some_iff.mp e).1
 refine⟨⟨by rw[List.length_set,r.len],fun j d' h=>?_,fun j es h=>?_,fun j k es1 es2 b h1 h2 h3' h4'=>?_⟩,hF⟩
 ·by_cases ej:i=j
  ·subst ej;rw[List.getElem?_set_self hi] at h;cases h
  ·rw[List.getElem?_set_ne ej] at h
   rw[hh];exact r.ro j d' h
 ·by_cases ej:i=j
  ·subst ej;rw[List.getElem?_set_self hi] at h;cases h
   exact⟨a,xs',ea,hF,z0l,by rw[hh];exact iv⟩
  ·rw[List.getElem?_set_ne ej] at h
   obtain⟨b,ys,q1,q2,q3,q4⟩:=r.own j es h
   refine⟨b,ys,q1,q2,?_,by rw[hh];exact q4⟩
   rw[z0s (fun z=>ej (r.inj i j ds es a e h ea (by rw[<-z];exact q1)))];exact q3
 ·have old:∀(l:Nat) (es':List D),(Γ.set i (En.own ds'))[l]? = some (En.own es')->∃es0,Γ[l]? = some (En.own es0):=fun l es' h=>by
   by_cases el:i=l
   ·subst el;exact⟨ds,e⟩
   ·rw[List.getElem?_set_ne el] at h;exact⟨es',h⟩
  obtain⟨e1,q1⟩:=old j es1 h1
  obtain⟨e2,q2⟩:=old k es2 h2
  exact r.inj j k e1 e2 b q1 q2 h3' h4'
theorem Rel.frz{K:PySem.W.Frag}{H:Hp}{F:List Addr}{Γ:G}{σ:St}(r:Rel K H F Γ σ)(fo:FOk H F)(i:Nat):∃F',FOk H F'/\(∀b,b∈F'->b∈F)/\Rel K H F' (L3.frz i Γ) σ:=by
 unfold L3.frz
 split
 ·rename_i ds e
  obtain⟨a,xs,h1,hF,h3,h4⟩:=r.own i ds e
  have hi:i<Γ.length:=(List.getElem?_eq_some_iff.mp e).1
  have sub:∀b,b∈F.filter (fun b=>b != a)->b∈F:=fun b hb=>(List.mem_filter.mp hb).1
  have up:Same (hid F H) (hid (F.filter (fun b=>b != a)) H):=fun b o hb=>by
   obtain⟨z1,z2⟩:=z1e hb
   rw[z0k fun z=>z1 (sub b z)];exact z2
  have na:a ∉ F.filter (fun b=>b != a):=fun z=>by simpa using (List.mem_filter.mp z).2
  refine⟨F.filter (fun b=>b != a),fun b hb=>fo b (sub b hb),sub,⟨by rw[List.length_set,r.len],fun j d' h=>?_,fun j es h=>?_,fun j k es1 es2 b q1 q2 q3 q4=>?_⟩⟩
  ·by_cases ej:i=j
   ·subst ej;rw[List.getElem?_set_self hi] at h;cases h
    exact⟨.ref a,h1,Is.lst_iff.mpr ⟨a,xs,rfl,SqL.of (by rw[z0k na];exact h3),h4.same up⟩⟩
   ·rw[List.getElem?_set_ne ej] at h
    obtain⟨v,q1,q2⟩:=r.ro j d' h
    exact⟨v,q1,q2.same up⟩
  ·by_cases ej:i=j
   ·subst ej;rw[List.getElem?_set_self hi] at h;cases h
   ·rw[List.getElem?_set_ne ej] at h
    obtain⟨b,ys,q1,q2,q3,q4⟩:=r.own j es h
    refine⟨b,ys,q1,List.mem_filter.mpr ⟨q2,?_⟩,q3,q4.same up⟩
    have:b≠a:=fun z=>ej (r.inj i j ds es a e h h1 (z ▸ q1))
    simpa using this
  ·by_cases ej:i=j
   ·subst ej;rw[List.getElem?_set_self hi] at q1;cases q1
   ·by_cases ek:i=k
    ·subst ek;rw[List.getElem?_set_self hi] at q2;cases q2
    ·rw[List.getElem?_set_ne ej] at q1
     rw[List.getElem?_set_ne ek] at q2
     exact r.inj j k es1 es2 b q1 q2 q3 q4
 ·exact⟨F,fo,fun _ h=>h,r⟩
section
variable {X:Cx}{st:Stmt}{rest:List Stmt}{t u:G->R Fl}{e a b c:Expr}{g ga gb:G->R D}{pos p pos':Pos}
theorem PQ.frz{st:Stmt}{g:G->R Fl}(i:Nat)(h:PQ X st g):PQ X st (fun Γ=>g (L3.frz i Γ)):=by
 refine⟨fun pins s σ H F Γ I fo rl hg=>?_⟩
 obtain⟨F',fo',sub,rl'⟩:=rl.frz fo i
 have E:Ext H F H F':=⟨fun _ _ _ h=>h,fun b hb=>.inl (sub b hb)⟩
 exact wpAny_mono (h.run pins s σ H F' _ I fo' rl' hg) (fun _ _ q=>q.later E) fun _ _ q=>q.later E
theorem z0x:PQs X [] z1q:=⟨fun pins s σ H F Γ I fo rl _=>wpAny_execs_nil ⟨Γ,rfl,σ,H,F,I,fo,rl,.refl⟩⟩
theorem z0d(h1:PQ X st t)(h2:PQs X rest u):PQs X (st::rest) (gSt t u):=by
 refine⟨fun pins s σ H F Γ I fo rl hg=>?_⟩
 refine wpAny_execs_cons (wpAny_mono (h1.run pins s σ H F Γ I fo rl (R.left hg)) (fun fl s1 q=>?_) fun x s1 q=>?_)
 ·cases fl with
  | next =>
    obtain⟨Γ',e,σ',H',F',I',fo',rl',E⟩:=q
    have e2:gSt t u Γ=u Γ':=R.step e _
    rw[e2] at hg ⊢
    exact wpAny_mono (h2.run pins s1 σ' H' F' Γ' I' fo' rl' hg) (fun _ _ q=>q.later E) fun _ _ q=>q.later E
  | ret v=>exact RtP.map q .refl (fun _ _ I=>I) (fun _ e=>R.step e _) fun _ e=>R.step e _
  | brk=>obtain⟨Γ',e,r⟩:=q;exact⟨Γ',R.step e _,r⟩
  | cont=>obtain⟨Γ',e,r⟩:=q;exact⟨Γ',R.step e _,r⟩
 ·obtain⟨c,Γ',σ',H',F',e,r⟩:=q
  exact⟨c,Γ',σ',H',F',R.step e _,r⟩
theorem z0f(h1:PQ X st t):PQs X [st] t:=by
 refine⟨fun pins s σ H F Γ I fo rl hg=>?_⟩
 refine wpAny_execs_cons (thn (h1.run pins s σ H F Γ I fo rl hg) fun fl s1 q=>?_)
 cases fl with
 | next=>exact wpAny_execs_nil q
 | ret v=>exact q
 | brk=>exact q
 | cont=>exact q
theorem z0w(he:PD X e g):PQ X (.Return (some e) pos) (gRet g):=⟨fun pins s σ H F Γ I fo rl hg =>
 wpAny_Return_some (wpAny_mono (he.run pins s σ H F Γ I fo rl (z1p hg)) (fun u s1 ⟨d,v,H',e1,I',rv,S,i⟩=>⟨v,σ,H',F,I',rv,.of_same S,.inl ⟨d,z2x e1,i⟩⟩) fun _ _ x=>x.lift fo rl _)⟩
theorem y1d{g:G->R (List D)}(he:PF X e g):PQ X (.Return (some e) pos) (z8b g):=⟨fun pins s σ H F Γ I fo rl hg =>
 wpAny_Return_some (wpAny_mono (he.run pins s σ H F Γ I fo rl (z1p hg)) (fun u s1 ⟨ds,a,xs,H',e1,I',eu,S,hn,ha,i⟩=>⟨.ref a,σ,H',F,I',eu,.of_same S,.inr ⟨ds,a,xs,z2x e1,rfl,.inr hn,ha,i.same z1j⟩⟩) fun _ _ x=>x.lift fo rl _)⟩
theorem y8s(i:Nat){x:Str}{p:Pos}(hN:X.N[i]? = some x:=by rfl)(hv:Vis X.env.scope x:=by first | exact Or.inl rfl | exact Or.inr (Or.inl rfl) | exact Or.inr (Or.inr rfl))(hd:(x==("__debug__":Str))=false:=by decide)
 (hcd:(x==("__classdict__":Str))=false:=by decide):PQ X (.Return (some (.Name x p)) pos) (z9g i):=by
 refine⟨fun pins s σ H F Γ I fo rl hg=>?_⟩
 unfold z9g at hg ⊢
 cases q:Γ[i]? with
 | none=>rw[q] at hg;exact absurd rfl hg
 | some en =>
   cases en with
   | own ds =>
     obtain⟨a,xs,h1,h2,h3,h4⟩:=rl.own i ds q
     refine wpAny_Return_some (wpAny_mono (z7r (X:=X.nox) hN hv hd hcd pins s σ H (fun v' H'=>v' = .ref a/\H'=H) (I.wish _) ⟨.ref a,h1,rfl,rfl⟩) (fun u s1 ⟨v',H',I',r,e1,e2⟩=>?_) fun _ _ z=>False.elim z)
     subst e1 e2
     exact⟨.ref a,σ,H',F,I'.unwish,r,.refl,.inr ⟨ds,a,xs,rfl,rfl,.inl h2,h3,h4.same z1j⟩⟩
   | _=>rw[q] at hg;exact absurd rfl hg
theorem z2s{cs ds:List Stmt}{gc:G->R Bool}(hc:PTD X c gc)(ha:PQs X cs t)(hb:PQs X ds u):PQ X (.If c cs ds pos) (gIfS gc t u):=by
 refine⟨fun pins s σ H F Γ I fo rl hg=>?_⟩
 refine wpAny_If (wpAny_mono (hc.run pins s σ H F Γ I fo rl (z1p hg)) (fun k s1 ⟨H1,e1,I1,S1⟩=>?_) fun _ _ x=>x.lift fo rl _)
 have e2:gIfS gc t u Γ=if k=true then t Γ else u Γ:=z2x e1
 rw[e2] at hg ⊢
 cases k with
 | true=>exact wpAny_mono (ha.run pins s1 σ H1 F Γ I1 (fo.same S1) (rl.same S1) hg) (fun _ _ q=>q.later (.of_same S1)) fun _ _ q=>q.later (.of_same S1)
 | false=>exact wpAny_mono (hb.run pins s1 σ H1 F Γ I1 (fo.same S1) (rl.same S1) hg) (fun _ _ q=>q.later (.of_same S1)) fun _ _ q=>q.later (.of_same S1)
theorem z1c(i:Nat){x:Str}(he:PDr X e g)(hN:X.N.Nodup)(hi:X.N[i]? = some x:=by rfl)(hx:Loc X.env.scope x:=by first | exact Or.inl rfl | exact Or.inr rfl)(hs:swapsWith e (some (.Name x pos')) pos.line X.env=pure false:=by rfl)(hf:X.fn x=true∨X.env.scope.names.lookup x=some .local:=by first | exact .inl rfl | exact .inr rfl | assumption) :
 PQ X (.Assign [.Name x pos'] e pos) (gSet i g):=by
 refine⟨fun pins s σ H F Γ I fo rl hg=>?_⟩
 refine wpAny_Assign_Name (wpAny_mono (he.run pins s σ H F Γ I fo rl (z1p hg)) (fun v s1 ⟨d,y,H1,e1,I1,r1,S1,i1⟩=>?_) fun _ _ x=>x.lift fo rl _) hs
 exact z6l I1 hN hi hx r1 (fun s2 I2=>⟨_,z2x e1,_,H1,F,I2,fo.same S1,(rl.same S1).set_ro i1,.of_same S1⟩) hf
theorem z2r(i:Nat){x:Str}{g:G->R (List D)}(he:PF X e g)(hN:X.N.Nodup)(hi:X.N[i]? = some x:=by rfl)(hx:Loc X.env.scope x:=by first | exact Or.inl rfl | exact Or.inr rfl)(hs:swapsWith e (some (.Name x pos')) pos.line X.env=pure false:=by rfl)(hf:X.fn x=true∨X.env.scope.names.lookup x=some .local:=by first | exact .inl rfl | exact .inr rfl | assumption) :
 PQ X (.Assign [.Name x pos'] e pos) (z3h i g):=by
 refine⟨fun pins s σ H F Γ I fo rl hg=>?_⟩
 refine wpAny_Assign_Name (wpAny_mono (he.run pins s σ H F Γ I fo rl (z1p hg)) (fun v s1 ⟨ds,a,xs,H1,e1,I1,eu,S1,hn,ha,i1⟩=>?_) fun _ _ x=>x.lift fo rl _) hs
 subst eu
 exact z6l (v:=.ref a) I1 hN hi hx rfl (fun s2 I2=>⟨_,z2x e1,_,H1,a::F,I2,(fo.same S1).cons ha,rl.set_own fo S1 hn ha i1,⟨fun b o _ h=>S1 _ _ h,fun b hb=>(List.mem_cons.mp hb).elim (fun z=>.inr (z ▸ hn)) .inl⟩⟩) hf
theorem z6p(i:Nat){x:Str}{apos cpos:Pos}(he:PDr X e g)(hN:X.N[i]? = some x:=by rfl)(hv:Vis X.env.scope x:=by first | exact Or.inl rfl | exact Or.inr (Or.inl rfl) | exact Or.inr (Or.inr rfl))(hd:(x==("__debug__":Str))=false:=by decide)(hcd:(x==("__classdict__":Str))=false:=by decide)
 (hsw:swapsWith (.Call (.Attribute (.Name x p) "append" apos) [e] [] cpos) none pos.line X.env=pure false:=by rfl)
 (hbase:attributeBase (.Name x p) "append" X.env (eval (.Name x p) X.env)=eval (.Name x p) X.env:=by rfl)
 (hfew:((backTo cpos (starEach [e] X.env)).all (fun x=>!x.1)&&(backToKw cpos (keywordEach [] X.env)).all (fun x=>x.1.isSome)
   && decide ([e].length+([]:List Keyword).length+(if ([]:List Keyword).isEmpty then 0 else 1)<30))=true:=by rfl)
 (hline:(apos.endLine==cpos.line)=true:=by rfl) (hs:starEach [e] X.env=(false,eval e X.env)::starEach [] X.env:=by rfl) :
 PQ X (.Expr (.Call (.Attribute (.Name x p) "append" apos) [e] [] cpos) pos) (gApp i g):=by
 refine⟨fun pins s σ H F Γ I fo rl hg=>?_⟩
 refine wpAny_Expr_any ?_ I.quiet hsw
 have hown:∃ds,Γ[i]? = some (.own ds):=by
  unfold gApp at hg
  split at hg
  ·rename_i ds e1;exact⟨ds,e1⟩
  ·exact absurd rfl hg
 obtain⟨ds,eo⟩:=hown
 have egA:gApp i g Γ=lift (g Γ) Γ fun d=>R.guard (ds.length<=100000) (.ok (.nx (Γ.set i (.own (ds++[d]))))):=by unfold gApp;rw[eo]
 rw[egA] at hg ⊢
 obtain⟨a',xs,h1,hF,h3,h4⟩:=rl.own i ds eo
 refine wpAny_Call_method_late hbase hfew hline rfl (wpAny_mono (z7r (X:=X.nox) hN hv hd hcd pins s σ H (fun v' H'=>v' = .ref a'/\H'=H) (I.wish _) ⟨.ref a',h1,rfl,rfl⟩) (fun v s1 ⟨v',H',I1,r1,e1,e2⟩=>?_) fun _ _ z=>False.elim z)
 subst e1 e2
 have I1':=I1.unwish
 obtain⟨t1,t2⟩:=y5j (T:="list") I1' r1 (.inl ⟨rfl,xs,SqL.of h3⟩)
 refine⟨"list",_,PySem.F.plainAttrs_list,PySem.F.slot_list_append,PySem.F.type_list_append,t1,t2,?_⟩
 rw[hs]
 refine Calls.callWith_builtin rfl (Calls.evalArgs_plain ?_)
 show wpAny _ _ (spliced ((false,eval e X.env)::backTo cpos [])) _ _ s1
 refine Calls.spliced_cons (wpAny_mono (he.run pins s1 σ H' F Γ I1' fo rl (z1p hg)) (fun u s2 ⟨d,y,H2,e3,I2,r2,S2,i2⟩=>Calls.spliced_nil ?_) fun _ _ x=>x.lift fo rl _)
 have hgx:=y2j hg e3
 obtain⟨hl,e4⟩:=R.guard_ne hgx
 have hx2:=S2 _ _ h3
 have hsl:(100001:Nat)<=sizeLine:=by rw[sizeLine_eq];decide
 have hxl:=h4.length
 refine wpAny_mono (y2f (X:=X.nox) pins s2 σ H2 (.ref a') [y] v [u] (fun z H''=>z = .non/\H''=upd H2 a' (.lst (xs++[y]))) (I2.wish _) r1 (.cons r2 .nil) ⟨a',xs,y,rfl,rfl,hx2,by lia,rfl,rfl⟩) (fun w' s3 ⟨z,H'',I3,rz,ez,eH⟩=>?_) fun _ _ z=>False.elim z
 subst ez eH
 obtain⟨rl',hF'⟩:=(rl.same S2).put eo h1 (xs':=xs++[y]) (ds':=ds++[d]) ((h4.same (z2b S2)).append (IsAll.cons i2 IsAll.nil))
 refine⟨_,(z2x e3).trans e4,σ,_,F,I3.unwish,fun b hb=>?_,rl',⟨fun b o hb h=>?_,fun b hb=>.inl hb⟩⟩
 ·by_cases hba:b=a'
  ·exact⟨xs++[y],by rw[hba];exact z0l⟩
  ·obtain⟨ys,q⟩:=fo b hb
   exact⟨ys,by rw[z0s hba];exact S2 _ _ q⟩
 ·rw[z0s (fun z=>hb (by rw[z];exact hF))];exact S2 _ _ h
noncomputable def PO'(X:Cx):Prop:=∀pins H F r,PassesOwn (model X.prog X.w) X.A X.env (FlX X pins H F r)
theorem z7q(i:Nat){x:Str}{px:Pos}{iter:Expr}{body:List Stmt}{gi:G->R (List D)}{gb:G->R Fl}(hp:PO' X)(hcalm:X.calm=true)(hi:PIF X (.Name x px) iter gi)(hb:PQs X body gb)(hN:X.N.Nodup)(hix:X.N[i]? = some x:=by rfl)(hx:Loc X.env.scope x:=by first | exact Or.inl rfl | exact Or.inr rfl)
 (hf:X.fn x=true∨X.env.scope.names.lookup x=some .local:=by first | exact .inl rfl | exact .inr rfl | assumption)
 (hs:∀x,foldedSetIterable iter X.env x=pure x:=by intro _;rfl):PQ X (.For (.Name x px) iter body [] pos) (gFor i gi gb):=by
 refine⟨fun pins s σ H F Γ I fo rl hg=>?_⟩
 refine wpAny_For (wpAny_mono (hi.run pins s σ H F Γ I fo rl (z1p hg)) (fun v s1 h1=>wpAny_mono h1 (fun itv s2 h2=>?_) fun _ _ x=>x.lift fo rl _) fun _ _ x=>x.lift fo rl _) hs
 obtain⟨ds,it,fp,tn,J,H2,e1,rfl,I2,S2,T,t0,fk,jd⟩:=h2
 have eg:gFor i gi gb Γ=z2y gb i ds Γ:=z2x e1
 rw[eg] at hg ⊢
 have hp':=hp pins H F (z2y gb i ds Γ)
 have stat:∀{H':Hp},(∀b∈fp,H' b=none)->∀b∈fp,FpOk X pins H' b:=fun hn b hb=>⟨hn b hb,(fk b hb).2⟩
 refine codeAny_forLoop_any (fun n s'=>∃(j:Nat) (σ':St) (H':Hp) (F':List Addr) (Γ':G),n=ds.length-j/\j<=ds.length/\Inv X pins σ' H' s'/\tn j s'.heap/\(∀b∈fp,H' b=none)/\FOk H' F'/\Rel X.K H' F' Γ' σ'/\Ext H2 F H' F'/\z2y gb i (ds.drop j) Γ'=z2y gb i ds Γ) ?_ ds.length
  ⟨0,σ,H2,F,Γ,by lia,Nat.zero_le _,I2,t0,fun b hb=>(fk b hb).1,fo.same S2,rl.same S2,.refl,by rw[List.drop_zero]⟩
 rintro n s3 ⟨j,σ3,H3,F3,Γ3,en,hj,I3,t3,fr3,fo3,rl3,E3,ev3⟩
 have E03:Ext H F H3 F3:=(Ext.of_same S2).trans E3
 obtain⟨jgo,jstop⟩:=jd H3 fun b o hb h=>E3.keep b o hb h
 by_cases hlt:j<ds.length
 ·obtain⟨go,yl⟩:=jgo j hlt
  refine wpAny_passesOwn hp' (thn (T.item X rfl rfl rfl hcalm j pins s3 σ3 H3 _ I3 (stat fr3) t3 go) fun r s4 ⟨u,hr,h4⟩=>?_)
  subst hr
  refine wpAny_passesOwn hp' (thn h4 fun _ s5 ⟨y,H5,I5,r5,y5,st5,fr5⟩=>?_)
  obtain⟨e5,d,ed,iv⟩:=yl y H5 y5
  subst e5
  have iv':=iv F3 fun b hb=>E3.old b hb
  have hdrop:ds.drop j=d::ds.drop (j+1):=by
   rw[List.drop_eq_getElem_cons hlt]
   have:ds[j]=d:=by
    have:=List.getElem?_eq_getElem hlt
    rw[ed] at this;exact(Option.some.inj this).symm
   rw[this]
  have I5':=I5.pinned (stat fr5) (T.obj _ _ st5)
  have hpg:PG X.nox (.Name x px) (x2w i):=y4g (X:=X.nox) hN hix hx hf
  refine wpAny_passesOwn hp' (wpAny_mono (hpg _ s5 σ3 H5 y u (fun σ' H'=>σ'=σ3.set i (some y)/\H'=H5) (I5'.wish _) r5 ⟨rfl,rfl⟩) (fun _ s6 ⟨σ6,H6,I6,e6,e6'⟩=>?_) fun _ _ z=>False.elim z)
  subst e6 e6'
  have evd:z2y gb i (d::ds.drop (j+1)) Γ3=z2y gb i ds Γ:=by rw[<-hdrop];exact ev3
  have hgb:gb (Γ3.set i (.ro d)) ≠ .no:=fun z=>by
   rw[<-evd] at hg
   unfold z2y at hg
   rw[z] at hg
   exact hg rfl
  have back:∀{s7:Shared} {σ7:St} {H7:Hp},Inv X (pins++y0h fp s5.heap) σ7 H7 s7->Inv X pins σ7 H7 s7/\tn (j+1) s7.heap/\∀b∈fp,H7 b=none:=fun {s7 σ7 H7} I7=>by
   refine⟨I7.unpinned,T.keep _ _ _ st5 fun b hb o e=>(I7.pin (b,o) (List.mem_append_right _ (List.mem_append_right _ (z3p hb e)))).1,fun b hb=>?_⟩
   obtain⟨o,e,dd⟩:=T.obj _ _ st5 b hb
   exact(I7.pin (b,o) (List.mem_append_right _ (List.mem_append_right _ (z3p hb e)))).2.1
  refine wpAny_passesOwn hp' (wpAny_mono (hb.run _ s6 _ H6 F3 _ I6.unwish fo3 (rl3.set_ro iv') hgb) (fun f s7 q7=>?_) fun x7 s7 q7=>?_)
  ·cases f with
   | next =>
     obtain⟨Γ7,e7,σ7,H7,F7,I7,fo7,rl7,E7⟩:=q7
     obtain⟨b1,b2,b3⟩:=back I7
     refine⟨ds.length-(j+1),by lia,j+1,σ7,H7,F7,Γ7,rfl,hlt,b1,b2,b3,fo7,rl7,E3.trans E7,?_⟩
     rw[<-evd]
     conv=>rhs;unfold z2y
     rw[e7]
   | cont =>
     obtain⟨Γ7,e7,σ7,H7,F7,I7,fo7,rl7,E7⟩:=q7
     obtain⟨b1,b2,b3⟩:=back I7
     refine⟨ds.length-(j+1),by lia,j+1,σ7,H7,F7,Γ7,rfl,hlt,b1,b2,b3,fo7,rl7,E3.trans E7,?_⟩
     rw[<-evd]
     conv=>rhs;unfold z2y
     rw[e7]
   | brk =>
     obtain⟨Γ7,e7,σ7,H7,F7,I7,fo7,rl7,E7⟩:=q7
     refine⟨Γ7,?_,σ7,H7,F7,I7.unpinned,fo7,rl7,E03.trans E7⟩
     rw[<-evd]
     conv=>lhs;unfold z2y
     rw[e7]
   | ret v7 =>
     refine RtP.map q7 E03 (fun _ _ I7=>I7.unpinned) (fun d7 e7=>?_) fun d7 e7=>?_
     ·rw[<-evd]
      conv=>lhs;unfold z2y
      rw[e7]
     ·rw[<-evd]
      conv=>lhs;unfold z2y
      rw[e7]
  ·obtain⟨c7,Γ7,σ7,H7,F7,e7,fl7,fo7,rl7,E7⟩:=q7
   refine⟨c7,Γ7,σ7,H7,F7,?_,?_,fo7,rl7,E03.trans E7⟩
   ·rw[<-evd]
    conv=>lhs;unfold z2y
    rw[e7]
   ·obtain⟨I7,e',C',oe,vs,q1,q2,q3,q4,q5,q6,q7',q8⟩:=fl7
    refine⟨I7.unpinned,e',C',oe,vs,q1,q2,q3,q4,q5,q6,fun p hp2=>q7' p ?_,?_⟩
    ·rcases List.mem_append.mp hp2 with z | z
     ·exact List.mem_append_left _ z
     ·exact List.mem_append_right _ (List.mem_append_left _ z)
    ·obtain⟨w1,w2,w3,w4,w5⟩:=q8
     refine⟨w1,w2,w3,w4,?_⟩
     rcases w5 with w5 | ⟨T',oT,ts,z1,z2,z3,z4,z5,z6,z7⟩
     ·exact .inl w5
     ·refine .inr ⟨T',oT,ts,z1,z2,z3,z4,z5,fun p hp2=>z6 p ?_,z7⟩
      rcases List.mem_append.mp hp2 with z | z
      ·exact List.mem_append_left _ z
      ·exact List.mem_append_right _ (List.mem_append_left _ z)
 ·have ej:j=ds.length:=by lia
  subst ej
  refine wpAny_passesOwn hp' (thn (T.done X rfl rfl rfl hcalm _ pins s3 σ3 H3 _ I3 (stat fr3) t3 jstop) fun r s4 ⟨hr,I4⟩=>?_)
  subst hr
  rw[List.drop_length] at ev3
  exact wpAny_execs_nil ⟨Γ3,ev3.symm,σ3,H3,F3,I4,fo3,rl3,E03⟩
theorem y5s(n:Nat){cnd:Expr}{body:List Stmt}{gc:G->R Bool}{gb:G->R Fl}(hp:PO' X)(hc:PTD X cnd gc)(hb:PQs X body gb):PQ X (.While cnd body [] pos) (whGo gc gb n):=by
 refine⟨fun pins s σ H F Γ I fo rl hg=>?_⟩
 have hp':=hp pins H F (whGo gc gb n Γ)
 refine wpAny_While (codeAny_whileLoop (fun m s'=>∃(σ':St) (H':Hp) (F':List Addr) (Γ':G),Inv X pins σ' H' s'/\FOk H' F'/\Rel X.K H' F' Γ' σ'/\Ext H F H' F'/\whGo gc gb m Γ'=whGo gc gb n Γ) ?_ n ⟨σ,H,F,Γ,I,fo,rl,.refl,rfl⟩)
 rintro m s1 ⟨σ1,H1,F1,Γ1,I1,fo1,rl1,E1,ev1⟩
 have hg1:whGo gc gb m Γ1 ≠ .no:=by rw[ev1];exact hg
 cases m with
 | zero=>exact absurd rfl hg1
 | succ m =>
   have evu:whGo gc gb (m+1) Γ1=lift (gc Γ1) Γ1 fun k=>if k=true then (match gb Γ1 with
    | .ok (.nx Γ')=>whGo gc gb m Γ'
    | .ok (.ct Γ')=>whGo gc gb m Γ'
    | .ok (.bk Γ')=>.ok (.nx Γ')
    | .ok (.rt d)=>.ok (.rt d)
    | .ok (.rtF d)=>.ok (.rtF d)
    | .ok (.ex c Γ')=>.ok (.ex c Γ')
    | _=>.no) else .ok (.nx Γ1):=rfl
   rw[evu] at hg1 ev1
   refine wpAny_passesOwn hp' (wpAny_mono (hc.run pins s1 σ1 H1 F1 Γ1 I1 fo1 rl1 (z1p hg1)) (fun k s2 ⟨H2,e2,I2,S2⟩=>?_) fun _ _ x=>by rw[<-ev1];exact(x.lift fo1 rl1 _).later E1)
   rw[z2x e2] at hg1 ev1
   cases k with
   | false =>
     rw[if_neg Bool.false_ne_true] at ev1 ⊢
     exact wpAny_execs_nil ⟨Γ1,ev1.symm,σ1,H2,F1,I2,fo1.same S2,rl1.same S2,E1.trans (.of_same S2)⟩
   | true =>
     rw[if_pos rfl] at ev1 hg1 ⊢
     have hgb:gb Γ1 ≠ .no:=fun z=>by rw[z] at hg1;exact hg1 rfl
     refine wpAny_passesOwn hp' (wpAny_mono (hb.run pins s2 σ1 H2 F1 Γ1 I2 (fo1.same S2) (rl1.same S2) hgb) (fun f s3 q3=>?_) fun x3 s3 q3=>?_)
     ·cases f with
      | next =>
        obtain⟨Γ7,e7,σ7,H7,F7,I7,fo7,rl7,E7⟩:=q3
        rw[e7] at ev1
        exact⟨m,Nat.lt_succ_self _,σ7,H7,F7,Γ7,I7,fo7,rl7,(E1.trans (.of_same S2)).trans E7,ev1⟩
      | cont =>
        obtain⟨Γ7,e7,σ7,H7,F7,I7,fo7,rl7,E7⟩:=q3
        rw[e7] at ev1
        exact⟨m,Nat.lt_succ_self _,σ7,H7,F7,Γ7,I7,fo7,rl7,(E1.trans (.of_same S2)).trans E7,ev1⟩
      | brk =>
        obtain⟨Γ7,e7,σ7,H7,F7,I7,fo7,rl7,E7⟩:=q3
        rw[e7] at ev1
        exact⟨Γ7,ev1.symm,σ7,H7,F7,I7,fo7,rl7,(E1.trans (.of_same S2)).trans E7⟩
      | ret v =>
        exact RtP.map q3 (E1.trans (.of_same S2)) (fun _ _ I7=>I7) (fun d7 e7=>by rw[e7] at ev1;exact ev1.symm) fun d7 e7=>by rw[e7] at ev1;exact ev1.symm
     ·obtain⟨c7,Γ7,σ7,H7,F7,e7,fl7,fo7,rl7,E7⟩:=q3
      rw[e7] at ev1
      exact⟨c7,Γ7,σ7,H7,F7,ev1.symm,fl7,fo7,rl7,(E1.trans (.of_same S2)).trans E7⟩
end
noncomputable def z7y(X:Cx)(pins:List (Addr×Obj))(σ:St)(H:Hp)(c:Er)(x:Value)(s:Shared)(fl:Value):Prop :=
 Inv X pins σ H s/\∃(e C:Addr) (oe:Obj) (vs:Array Value),x = .ref e/\X.mg c.nm=some (.ref C)/\H e=none/\X.s₀.heap.get? e=none/\e≠X.env.locals/\(∀y k,X.env.cells.lookup y=some k->k≠e)/\(∀p∈X.pn++pins,p.1≠e) /\
  s.heap.get? e=some oe/\oe.cls = .ref C/\oe.data = .fields vs/\(∃a0,vs[0]? = some a0) /\
  ∃(T:Addr) (oT:Obj) (ts:Array Value),vs[1]? = some (.ref T)/\H T=none/\X.s₀.heap.get? T=none/\T≠X.env.locals/\(∀y k,X.env.cells.lookup y=some k->k≠T)/\(∀p∈X.pn++pins,p.1≠T)/\T≠e /\
   s.heap.get? T=some oT/\oT.data = .fields ts/\ts[3]? = some fl
section
variable {X:Cx}{pins:List (Addr×Obj)}{σ:St}{H:Hp}{c:Er}{x:Value}{s:Shared}{E:Value->Shared->Prop}{Q:Unit->Shared->Prop}
theorem z7y.none(h:z7y X pins σ H c x s .none):y3s X pins σ H c x s:=by
 obtain⟨I,e,C,oe,vs,h1,h2,h3,h4,h5,h6,h7,h8,h9,h10,h11,T,oT,ts,k1,k2,k3,k4,k5,k6,k7,k8,k9,k10⟩:=h
 exact⟨I,e,C,oe,vs,h1,h2,h3,h4,h5,h6,h7,h8,h9,h10,h11,.inr ⟨T,oT,ts,k1,k2,k3,k4,k5,k6,k7,k8,k9,.inl k10⟩⟩
theorem z7y.here{L:Addr}(hf:X.env.frame=some L)(h:z7y X pins σ H c x s (rawInt L)):y3s X pins σ H c x s:=by
 obtain⟨I,e,C,oe,vs,h1,h2,h3,h4,h5,h6,h7,h8,h9,h10,h11,T,oT,ts,k1,k2,k3,k4,k5,k6,k7,k8,k9,k10⟩:=h
 exact⟨I,e,C,oe,vs,h1,h2,h3,h4,h5,h6,h7,h8,h9,h10,h11,.inr ⟨T,oT,ts,k1,k2,k3,k4,k5,k6,k7,k8,k9,.inr ⟨L,hf,k10⟩⟩⟩
theorem x4e{P:Program}{w:World}{H:Hp}{h:Heap}{a:Addr}{o:HO}(x:z4x P w H h a o):∃ob,h.get? a=some ob:=by
 cases o with
 | lst xs=>obtain⟨_,_,_,_,e⟩:=x;exact⟨_,e⟩
 | tup xs=>obtain⟨_,_,_,ob,e,_⟩:=x;exact⟨_,e⟩
 | dK kvs=>obtain⟨_,_,_,_,o,_,_,e,_⟩:=x;exact⟨_,e⟩
 | dT kvs=>obtain⟨_,_,_,_,o,_,_,e,_⟩:=x;exact⟨_,e⟩
 | set S n=>obtain⟨o,_,_,_,e,_⟩:=x;exact⟨_,e⟩
 | ins C dx fs=>obtain⟨_,_,_,e,_⟩:=x;exact⟨_,e⟩
 | own y=>exact x
 | xd fs=>obtain⟨_,⟨_,_,_,e,_⟩,_⟩:=x;exact⟨_,e⟩
 | rng lo hi=>obtain⟨_,_,_,e⟩:=x;exact⟨_,e⟩
 | frz ob u=>obtain⟨e,_⟩:=x;exact⟨_,e⟩
 | tbl ps=>exact⟨_,x⟩
 | met f y=>exact⟨_,x⟩
 | ext φ=>exact x.2.1
theorem Inv.recs{ch:List Addr}{h':Heap}(I:Inv X pins σ H s)(hch:∀b∈ch,H b=none/\X.s₀.heap.get? b=none/\b≠X.env.locals/\(∀y k,X.env.cells.lookup y=some k->k≠b)/\∀p∈X.pn++pins,p.1≠b)
 (keep:∀b o,b ∉ frs X.stack->b ∉ ch->s.heap.get? b=some o->h'.get? b=some o) (slot:∀b o,b ∉ ch->s.heap.get? b=some o->∃sl,h'.get? b=some { o with slots:=sl }):Inv X pins σ H { s with heap:=h' }:=by
 refine I.call (g':=s.gens) (t':=s.toks) (d':=s.drawn) (ch:=ch) ⟨fun b o e _ hb hc=>keep b o hb hc e,fun b o e _ _ hc=>slot b o hc e,fun _ _ _ n _=>n,fun b o e hc=>let ⟨sl,q⟩:=slot b o hc e;⟨_,q⟩,fun _ _ q=>q,fun _ _ _ q=>q,fun _ ps q=>⟨#[],by rw[q];simp⟩⟩ (fun b u e=>?_) I.bare fun b hb=>?_
 ·have tr:∀d w',H d=some w'->d ∉ frs X.stack/\d ∉ ch:=fun d w' q=>by
   refine⟨fun z=>?_,fun z=>?_⟩
   ·rw[I.stkFree d z] at q;cases q
   ·rw[(hch d z).1] at q;cases q
  refine(I.hok b u e).stay (fun d v hd q=>?_) (fun _ q=>q) fun _ _ q=>q
  rcases hd with z | z
  ·rw[z] at q ⊢;exact keep b v (tr b u e).1 (tr b u e).2 q
  ·exact keep d v (tr d _ z).1 (tr d _ z).2 q
 ·obtain⟨h1,h2,h3,h4,h5⟩:=hch b hb
  exact⟨.inr h2,h3,h4,h5⟩
noncomputable def hx(l:List Addr):Hp:=fun b=>if b∈l then some (.own 0) else none
theorem w0e{l:List Addr}{b:Addr}(h:b∈l):hx l b=some (.own 0):=by unfold hx;rw[if_pos h]
theorem x4n{l:List Addr}{b:Addr}(h:b ∉ l):hx l b=none:=by unfold hx;rw[if_neg h]
theorem z5d{h:Heap}{l:List Addr}{b:Addr}(hb:b∈l):(hidT h (hx l)).get? b=none:=by
 cases q:(hidT h (hx l)).get? b with
 | none=>rfl
 | some o =>
   have z:=(y4l q).2
   rw[w0e hb] at z;cases z
theorem y2e{L e C:Addr}{a0:Value}{ch:List Addr}{h':Heap}(hex:X.ex=[])(I:Inv X pins σ H s)(hmg:X.mg c.nm=some (.ref C))(he:e∈ch)(hch:∀b∈ch,H b=none/\X.s₀.heap.get? b=none/\b≠X.env.locals/\(∀y k,X.env.cells.lookup y=some k->k≠b)/\∀p∈X.pn++pins,p.1≠b)
 (hN:Heap.NotedW (hidT s.heap (hx (frs X.stack++ch))) X.stack e (.ref C) a0 (rawInt L) s.heap h'):z7y X pins σ H c (.ref e) { s with heap:=h' } (rawInt L):=by
 obtain⟨st,ff,⟨oe',vs',T',oT',ts',q1,⟨q2,q2'⟩,q3,q4,q5,q6,q7,q8,q9⟩,up⟩:=hN
 have keep:∀b o,b ∉ frs X.stack->b ∉ ch->s.heap.get? b=some o->h'.get? b=some o:=fun b o h1 h2 q=>st b o (y1h q (x4n fun z=>(List.mem_append.mp z).elim h1 h2))
 have slot:∀b o,b ∉ ch->s.heap.get? b=some o->∃sl,h'.get? b=some { o with slots:=sl }:=fun b o h2 q=>by
  by_cases hb:b∈frs X.stack
  ·obtain⟨_,o',ho',hnf⟩:=I.stack.mem hb
   rw[q] at ho';cases ho'
   exact up b o q hnf
  ·exact⟨o.slots,keep b o hb h2 q⟩
 have hT:H T'=none/\X.s₀.heap.get? T'=none/\T'≠X.env.locals/\(∀y k,X.env.cells.lookup y=some k->k≠T')/\∀p∈X.pn++pins,p.1≠T':=by
  cases q:s.heap.get? T' with
  | none =>
    refine⟨?_,I.gone hex q⟩
    cases z:H T' with
    | none=>rfl
    | some u =>
      obtain⟨o,eo⟩:=x4e (I.hok T' u z)
      rw[q] at eo;cases eo
  | some o =>
    have hin:T'∈frs X.stack++ch:=by
     by_cases z:T'∈frs X.stack++ch
     ·exact z
     ·have:=y1h q (x4n z)
      rw[q5] at this;cases this
    rcases List.mem_append.mp hin with z | z
    ·exfalso
     obtain⟨_,o',ho',hnf⟩:=I.stack.mem z
     rw[q] at ho';cases ho'
     obtain⟨sl,e1⟩:=up T' o q hnf
     rw[q7] at e1;cases e1
     exact hnf _ q8
    ·exact hch T' z
 obtain⟨f1,f2,f3,f4,f5⟩:=hch e he
 obtain⟨g1,g2,g3,g4,g5⟩:=hT
 exact⟨Inv.recs I hch keep slot,e,C,oe',vs',rfl,hmg,f1,f2,f3,f4,f5,q1,q2,q3,⟨a0,q2'⟩,T',oT',ts',q4,g1,g2,g3,g4,g5,q6,q7,q8,q9⟩
theorem y6h{M:Model}{L:Addr}(hex:X.ex=[])(hstk:X.stack=X.env::X.outer)(hf:X.env.frame=some L)(h:y3s X pins σ H c x s)(hQ:∀s',z7y X pins σ H c x s' (rawInt L)->Q () s'):wpAny M X.A (noteFrame x X.env) Q E s:=by
 obtain⟨I,e,C,oe,vs,h1,h2,h3,h4,h5,h6,h7,h8,h9,h10,h11,h12⟩:=h
 subst h1
 obtain⟨a0,h11⟩:=h11
 have hfr:X.A.frames=some (X.env::X.outer):=by rw[<-hstk];exact I.ok.frames
 have nfe:∀{b:Addr} {o:Obj} {ws:Array Value},s.heap.get? b=some o->o.data = .fields ws->b ∉ frs X.stack:=fun {b o ws} q1 q2 z=>by
  obtain⟨_,o',ho',hnf⟩:=I.stack.mem z
  rw[q1] at ho';cases ho'
  exact hnf _ q2
 have hl:∀ch:List Addr,s.heap.FunFrames (hidT s.heap (hx (frs X.stack++ch))) (X.env::X.outer):=fun ch=>by
  have gen:∀(l:List Env),(∀b∈frs l,b∈frs X.stack)->s.heap.FunFrames X.base l->s.heap.FunFrames (hidT s.heap (hx (frs X.stack++ch))) l:=by
   intro l
   induction l with
   | nil=>intro _ _;trivial
   | cons env r ih =>
     intro hs ⟨hk,⟨L',o,hf',hn,ho,hd⟩,hr⟩
     have m1:∀b∈frs r,b∈frs (env::r):=fun b hb=>by unfold frs at hb ⊢;rw[List.filterMap_cons,hf'];exact List.mem_cons_of_mem _ hb
     have m0:L'∈frs (env::r):=by unfold frs;rw[List.filterMap_cons,hf'];exact List.mem_cons_self
     exact⟨hk,⟨L',o,hf',z5d (List.mem_append_left _ (hs L' m0)),ho,hd⟩,ih (fun b hb=>hs b (m1 b hb)) hr⟩
  rw[<-hstk]
  exact gen X.stack (fun _ h=>h) I.stack
 have stays:∀ch:List Addr,(hidT s.heap (hx (frs X.stack++ch))).StaysIn s.heap:=fun ch b o q=>(y4l q).1
 rcases h12 with h12 | ⟨T,oT,ts,k1,k2,k3,k4,k5,k6,k7,k8,k9,k10⟩
 ·have hsz:1<vs.size:=(Array.getElem?_eq_some_iff.mp h12).1
  unfold noteFrame
  simp only[hf]
  refine wpAny_bind (wpAny_field h8 h10 h12 ?_)
  rw[if_neg (by decide)]
  refine wpAny_entryW hfr (hl [e]) hf h8 (stays [e]) (z5d (by simp)) h10 hsz h11 fun h' hN=>hQ _ ?_
  rw[h9,<-hstk] at hN
  refine y2e (ch:=[e]) hex I h2 (by simp) (fun b hb=>?_) hN
  have:b=e:=by simpa using hb
  subst this
  exact⟨h3,h4,h5,h6,h7⟩
 ·have hcc:∀b∈[e,T],H b=none/\X.s₀.heap.get? b=none/\b≠X.env.locals/\(∀y k,X.env.cells.lookup y=some k->k≠b)/\∀p∈X.pn++pins,p.1≠b:=fun b hb=>by
   have:b=e∨b=T:=by simpa using hb
   rcases this with rfl | rfl
   ·exact⟨h3,h4,h5,h6,h7⟩
   ·exact⟨k2,k3,k4,k5,k6⟩
  rcases k10 with k10 | ⟨L',hL',k10⟩
  ·refine wpAny_noteFrame_onW (cls:=.ref C) (a0:=a0) hfr (hl [e,T]) hf ⟨oe,vs,T,oT,ts,h8,⟨h9,h11⟩,h10,k1,z5d (by simp),k7,k8,k9,k10⟩ (stays [e,T]) (z5d (by simp)) fun h' hN=>hQ _ ?_
   rw[<-hstk] at hN
   exact y2e (ch:=[e,T]) hex I h2 (by simp) hcc hN
  ·rw[hf] at hL';cases hL'
   refine wpAny_noteFrame_againW (base:=hidT s.heap (hx (frs X.stack++[e,T]))) (cls:=.ref C) (a0:=a0) hf ⟨oe,vs,T,oT,ts,h8,⟨h9,h11⟩,h10,k1,z5d (by simp),k7,k8,k9,k10⟩ (hQ s ?_)
   exact⟨I,e,C,oe,vs,rfl,h2,h3,h4,h5,h6,h7,h8,h9,h10,⟨a0,h11⟩,T,oT,ts,k1,k2,k3,k4,k5,k6,k7,k8,k9,k10⟩
theorem x0p{M:Model}{A:Around}{fl:Value}{fr:Option Addr}(h:z7y X pins σ H c x s fl)(hQ:∀s',z7y X pins σ H c x s' (fr.elim .none fun f=>rawInt f)->Q () s'):wpAny M A (setFlight x fr) Q E s:=by
 obtain⟨I,e,C,oe,vs,h1,h2,h3,h4,h5,h6,h7,h8,h9,h10,h11,T,oT,ts,k1,k2,k3,k4,k5,k6,k7,k8,k9,k10⟩:=h
 subst h1
 have hsz3:3<ts.size:=(Array.getElem?_eq_some_iff.mp k10).1
 have other:∀b,b≠T->(s.heap.update T (Obj.mapFields (·.setIfInBounds 3 (fr.elim Value.none fun f=>rawInt f)))).get? b=s.heap.get? b:=fun b hb=>Heap.get?_update_other _ _ (Ne.symm hb)
 unfold setFlight
 refine wpAny_bind (wpAny_field h8 h10 k1 ?_)
 rw[if_pos (show(Value.ref T != Value.none)=true from by simp)]
 refine wpAny_setField k8 k9 hsz3 (hQ _ ⟨Inv.recs (ch:=[T]) I (fun b hb=>?_) (fun b o hb hc q=>?_) (fun b o hc q=>?_),e,C,oe,vs,rfl,h2,h3,h4,h5,h6,h7,(other e (Ne.symm k7)).trans h8,h9,h10,h11,T,_,_,k1,k2,k3,k4,k5,k6,k7,
  Heap.get?_update_self _ k8 (Obj.isFreed_of_fields (Obj.data_mapFields k9 _)),Obj.data_mapFields k9 _,by simp[hsz3]⟩)
 ·have:b=T:=by simpa using hb
  subst this
  exact⟨k2,k3,k4,k5,k6⟩
 ·have hc':b≠T:=by simpa using hc
  exact(other b hc').trans q
 ·have hc':b≠T:=by simpa using hc
  exact⟨o.slots,(other b hc').trans q⟩
theorem x9i{L:Addr}(hex:X.ex=[])(hstk:X.stack=X.env::X.outer)(hf:X.env.frame=some L):PO' X:=fun pins H F r e s' h=>by
 obtain⟨c,Γ',σ',H',F',e1,fl,fo,rl,Ex⟩:=h
 refine y6h hex hstk hf fl fun s1 f1=>?_
 obtain⟨I,e',C,oe,vs,h1,h2,h3,h4,h5,h6,h7,h8,h9,h10,h11,T,oT,ts,k1,kr⟩:=id f1
 subst h1
 show wpAny _ _ _ _ _ _
 refine wpAny_bind (wpAny_field h8 h10 k1 ?_)
 rw[if_neg (show ¬((Value.ref T==Value.none)=true) from by simp)]
 rw[hf]
 exact x0p f1 fun s2 f2=>⟨c,Γ',σ',H',F',e1,f2.here hf,fo,rl,Ex⟩
end
theorem x6r{H:Hp}:hid [] H=H:=by funext b;unfold hid;simp
theorem y1z{K:PySem.W.Frag}{H:Hp}{N:List Str}{ds:List D}{vs:List V}(i:IsAll K H ds vs):Rel K H [] (ini N.length ds) (L2.start N vs):=by
 have hl:=i.length
 have key:∀(j:Nat) (en:En),(ini N.length ds)[j]? = some en->(∃d,en = .ro d/\ds[j]? = some d)∨en = .no:=fun j en h=>by
  unfold ini at h
  by_cases hj:j<ds.length
  ·rw[List.getElem?_append_left (by simpa using hj),List.getElem?_map,List.getElem?_eq_getElem hj] at h
   cases h
   exact .inl ⟨_,rfl,List.getElem?_eq_getElem hj⟩
  ·rw[List.getElem?_append_right (by simpa using hj),List.getElem?_replicate] at h
   split at h
   ·cases h;exact .inr rfl
   ·cases h
 refine⟨?_,fun j d h=>?_,fun j es h=>?_,fun j k es fs a h1 _ _ _=>?_⟩
 ·unfold ini L2.start
  simp[hl]
 ·rcases key j _ h with ⟨d',e,hd⟩ | e
  ·cases e
   obtain⟨v,hv,iv⟩:=i.get hd
   refine⟨v,?_,by rw[x6r];exact iv⟩
   unfold L2.start
   rw[List.getElem?_append_left (by rw[List.length_map];exact(List.getElem?_eq_some_iff.mp hv).1),List.getElem?_map,hv];rfl
  ·cases e
 ·rcases key j _ h with ⟨d',e,_⟩ | e<;>cases e
 ·rcases key j _ h1 with ⟨d',e,_⟩ | e<;>cases e
section
variable {P:Program}{w:World}{K:PySem.W.Frag}{mg:Str->Option Value}{base:Heap}
noncomputable abbrev z2w (P:Program) (w:World) (K:PySem.W.Frag) (mg:Str->Option Value) (base:Heap) (N:List Str) (qual:Str) (st:Stmt) (f:Addr) (cdv:Value) (A:Around) (outer:List Env) (s:Shared) (H:Hp) (E:XK):Cx :=
 cxOf (CXE P w) P w K mg base N qual (z0g st) f cdv A outer s H E
theorem x0a{N:List Str}{qual:Str}{st:Stmt}{f:Addr}{cdv:Value}{A:Around}{outer:List Env}{s s':Shared}{H H':Hp}{E:XK}{pins:List (Addr×Obj)}{σ':St}{F':List Addr}{c:Er}{x:Value}
 (fl:y3s (z2w P w K mg base N qual st f cdv A outer s H E) pins σ' H' c x s') (hE:∀C,mg c.nm=some (.ref C)->E (.ref C) none H'):(z2w P w K mg base N qual st f cdv A outer s H E).xe x s':=by
 show wpAny _ _ (leaving _ x) _ _ s'
 unfold leaving
 refine wpAny_bind (y6h (L:=s.heap.objs.size) rfl rfl rfl fl fun s1 f1=>?_)
 refine x0p (fr:=none) f1 fun s2 f2=>?_
 obtain⟨I,e,C,oe,vs,h1,h2,h3,h4,h5,h6,h7,h8,h9,h10,h11,T,oT,ts,k1,k2,k3,k4,k5,k6,k7,k8,k9,k10⟩:=f2
 exact⟨e,C,T,oe,oT,vs,ts,H',h1,I.os,I.bare,I.base,I.hok,h3,h4,h8,h9,h10,h11,k1,k2,k3,k7,k8,k9,k10,hE C h2⟩
theorem z9j{x qual:Str}{st:Stmt}{f:Addr}{fd:FuncData}{N ps:List Str}{k:Nat}{φ:List D->R D}(Fu:Fun K x qual st f fd)(S:FnScope N ps (z0g st))(hb:z6h K fd ps [])(hlen:∀ds,φ ds ≠ .no->ds.length=ps.length)
 (hbody:∀(cdv:Value) (A:Around) (outer:List Env) (s:Shared) (H:Hp) (E:XK),Room k (z2w P w K mg base N qual st f cdv A outer s H E).A->∃g,PQs (z2w P w K mg base N qual st f cdv A outer s H E) (z3i st) g/\∀ds,φ ds ≠ .no->fin (g (ini N.length ds))=φ ds) :
 FnD P w K mg base (k+1) f fd ps φ:=by
 refine⟨?_,hb,Fu.kp⟩
 obtain⟨oc,od,kV,doc,pm,an,cdv,ct,osl,rfl,lk,hcd⟩:=Fu.ex
 refine y7u lk hcd S (fun vs H Q E h=>?_) fun A outer s H vs Q E hr hsp=>?_
 ·obtain⟨ds,i,hne,_⟩:=h
  rw[<-i.length];exact hlen ds hne
 obtain⟨g,hq,hg⟩:=hbody cdv A outer s H E hr
 obtain⟨ds,i,hne,hok,her⟩:=hsp
 have e0:=hg ds hne
 refine⟨fun D' σ' H'=>D'={ nx:=fun _ H'=>Q .non H',rt:=Q }/\σ'=L2.start N vs/\H'=H,?_,rfl,rfl,rfl⟩
 intro pins s1 σ1 H1 D1 I hw
 obtain⟨rfl,rfl,rfl⟩:=hw
 have hgne:g (ini N.length ds) ≠ .no:=fun z=>hne (by rw[<-e0,z];rfl)
 refine wpAny_mono (hq.run pins s1 (L2.start N vs) H1 [] (ini N.length ds) I FOk.nil (y1z i) hgne) (fun fl s' q=>?_) fun x' s' q=>?_
 ·cases fl with
  | next =>
    obtain⟨Γ',e1,σ',H',F',I',_,_,Ex⟩:=q
    exact⟨σ',H',I',hok .non .non H' (by rw[<-e0,e1];rfl) Ex.same (Is.non_iff.mpr rfl)⟩
  | ret u =>
    obtain⟨v,σ',H',F',I',rv,Ex,⟨d,e1,iv⟩ | ⟨es,a,xs,e1,ev,hn,ha,ia⟩⟩:=q
    ·exact⟨v,σ',H',I',rv,hok d v H' (by rw[<-e0,e1];rfl) Ex.same iv⟩
    ·exact absurd (by rw[<-e0,e1];rfl) hne
  | brk=>obtain⟨Γ',e1,_⟩:=q;exact absurd (by rw[<-e0,e1];rfl) hne
  | cont=>obtain⟨Γ',e1,_⟩:=q;exact absurd (by rw[<-e0,e1];rfl) hne
 ·obtain⟨c,Γ',σ',H',F',e1,fl,fo,rl,Ex⟩:=q
  exact x0a (F':=F') fl fun C hC=>her c C H' (by rw[<-e0,e1];rfl) hC Ex.same
theorem y6g{x qual:Str}{st:Stmt}{f:Addr}{fd:FuncData}{N ps:List Str}{k:Nat}{φ:List D->R (List D)}(Fu:Fun K x qual st f fd)(S:FnScope N ps (z0g st))(hb:z6h K fd ps [])(hlen:∀ds,φ ds ≠ .no->ds.length=ps.length)
 (hbody:∀(cdv:Value) (A:Around) (outer:List Env) (s:Shared) (H:Hp) (E:XK),Room k (z2w P w K mg base N qual st f cdv A outer s H E).A->∃g,PQs (z2w P w K mg base N qual st f cdv A outer s H E) (z3i st) g/\∀ds,φ ds ≠ .no->finF (g (ini N.length ds))=φ ds) :
 FnF P w K mg base (k+1) f fd ps φ:=by
 refine⟨?_,hb,Fu.kp⟩
 obtain⟨oc,od,kV,doc,pm,an,cdv,ct,osl,rfl,lk,hcd⟩:=Fu.ex
 refine y7u lk hcd S (fun vs H Q E h=>?_) fun A outer s H vs Q E hr hsp=>?_
 ·obtain⟨ds,i,hne,_⟩:=h
  rw[<-i.length];exact hlen ds hne
 obtain⟨g,hq,hg⟩:=hbody cdv A outer s H E hr
 obtain⟨ds,i,hne,hok,her⟩:=hsp
 have e0:=hg ds hne
 refine⟨fun D' σ' H'=>D'={ nx:=fun _ H'=>Q .non H',rt:=Q }/\σ'=L2.start N vs/\H'=H,?_,rfl,rfl,rfl⟩
 intro pins s1 σ1 H1 D1 I hw
 obtain⟨rfl,rfl,rfl⟩:=hw
 have hgne:g (ini N.length ds) ≠ .no:=fun z=>hne (by rw[<-e0,z];rfl)
 refine wpAny_mono (hq.run pins s1 (L2.start N vs) H1 [] (ini N.length ds) I FOk.nil (y1z i) hgne) (fun fl s' q=>?_) fun x' s' q=>?_
 ·cases fl with
  | next =>
    obtain⟨Γ',e1,_⟩:=q
    exact absurd (by rw[<-e0,e1];rfl) hne
  | ret u =>
    obtain⟨v,σ',H',F',I',rv,Ex,⟨d,e1,iv⟩ | ⟨es,a,xs,e1,ev,hn,ha,ia⟩⟩:=q
    ·exact absurd (by rw[<-e0,e1];rfl) hne
    ·subst ev
     exact⟨.ref a,σ',H',I',rv,hok es a xs H' (by rw[<-e0,e1];rfl) Ex.same (hn.elim (fun z=>absurd z (by simp)) fun z=>z) ha ia⟩
  | brk=>obtain⟨Γ',e1,_⟩:=q;exact absurd (by rw[<-e0,e1];rfl) hne
  | cont=>obtain⟨Γ',e1,_⟩:=q;exact absurd (by rw[<-e0,e1];rfl) hne
 ·obtain⟨c,Γ',σ',H',F',e1,fl,fo,rl,Ex⟩:=q
  exact x0a (F':=F') fl fun C hC=>her c C H' (by rw[<-e0,e1];rfl) hC Ex.same
theorem z3s{N:List Str}{qual:Str}{st:Stmt}{f:Addr}{cdv:Value}{A:Around}{outer:List Env}{s:Shared}{H:Hp}{E:XK}:PO' (z2w P w K mg base N qual st f cdv A outer s H E):=x9i (L:=s.heap.objs.size) rfl rfl rfl
end
section
variable {X:Cx}{e a b c:Expr}{g ga gb gc:G->R D}{pos p:Pos}
noncomputable def isIC:Expr->Bool
 | .Constant (.int _) _ _=>true
 | _=>false
noncomputable def icD:Expr->D
 | .Constant (.int i) _ _=>.int i
 | _=>.non
theorem y7h{es:List Expr}(h:es.all isIC=true:=by rfl):PAD X es (fun _=>.ok (es.map icD)):=by
 induction es with
 | nil=>exact z0c
 | cons e es ih =>
   have h1:isIC e=true/\es.all isIC=true:=by simpa using h
   have h2:=ih h1.2
   cases e with
   | Constant c j q =>
     cases c with
     | int i =>
       refine⟨fun pos pins s σ H F Γ I fo rl hg=>?_⟩
       exact(z0a (X:=X) (e:=.Constant (.int i) j q) z0e h2 (by rfl)).run pos pins s σ H F Γ I fo rl (fun z=>nomatch z)
     | _=>exact absurd h1.1 (by simp[isIC])
   | _=>exact absurd h1.1 (by simp[isIC])
theorem x8r{pins:List (Addr×Obj)}{σ:St}{H:Hp}{s:Shared}{A:Around}{E:Value->Shared->Prop}{Q:Value->Shared->Prop}{d:D}{v:V}{u cv:Value}{b:Bool}(I:Inv X pins σ H s)(hnx:d.noX=true)(i:Is X.K H d v)(r:RelV v u)(e:PySem.W.kitOne X.K (.type d.ty) cv=some b)(h:∀tk,Q (.bool b) { s with toks:=tk }) :
 wpAny (model X.prog X.w) A (call (.builtin "isinstance") [u,cv]) Q E s:=by
 cases d with
 | non=>rw[Is.non_iff.mp i] at r;cases (show u=Value.none from r);exact PySem.W.kia_one PySem.W.kitx_none I.kIn True.intro e (fun z=>nomatch z) h
 | bl y=>rw[Is.bl_iff.mp i] at r;cases (show u=Value.bool y from r);exact PySem.W.kia_one PySem.W.kitx_bool I.kIn True.intro e (fun z=>nomatch z) h
 | int y=>rw[Is.int_iff.mp i] at r;obtain⟨t,q⟩:=(show ∃t,u=Value.int y t from r);cases q;exact PySem.W.kia_one PySem.W.kitx_int I.kIn True.intro e (fun z=>nomatch z) h
 | str y=>rw[Is.str_iff.mp i] at r;obtain⟨t,q⟩:=(show ∃t,u=Value.str y t from r);cases q;exact PySem.W.kia_one PySem.W.kitx_str I.kIn True.intro e (fun z=>nomatch z) h
 | tup ds =>
   obtain⟨a,xs,rfl,h1,_⟩:=Is.tup_iff.mp i
   cases (show u=Value.ref a from r)
   obtain⟨its,_,⟨o,ho,hc,_⟩,_⟩:=I.tuple h1
   exact PySem.W.kia_one PySem.W.kitx_tuple I.kIn ⟨o,ho,hc⟩ e (fun z=>nomatch z) h
 | lst ds =>
   obtain⟨a,xs,rfl,h1,_⟩:=Is.lst_iff.mp i
   cases (show u=Value.ref a from r)
   obtain⟨its,_,⟨o,n,ho,hc,_⟩,_⟩:=I.list h1
   exact PySem.W.kia_one PySem.W.kitx_list I.kIn ⟨o,ho,hc⟩ e (fun z=>nomatch z) h
 | dct =>
   obtain⟨a,ob,rfl,h1,h2⟩:∃a ob,v=V.ref a/\H a=some (.frz ob (.own 0))/\ob.cls = .type "dict":=by unfold Is at i;exact i
   cases (show u=Value.ref a from r)
   exact PySem.W.kia_one PySem.W.kitx_dict I.kIn ⟨ob,(I.hok a _ h1).1,h2⟩ e (fun z=>nomatch z) h
 | exc c=>simp[D.noX] at hnx
theorem z8w{y:Str}{py:Pos}{cv:Value}(f:String->Bool)(ha:PD X a ga)(hm:X.mg "isinstance"=none)(hb:∀{E:Value->Shared->Prop} {pins σ H s} {Q:Value->Shared->Prop},Inv X pins σ H s->Q cv s->wpAny (model X.prog X.w) X.A (eval (.Name y py) X.env) Q E s)
 (hk:∀d:D,d.noX=true->PySem.W.kitOne X.K (.type d.ty) cv=some (f d.ty)) (hg:Gl X "isinstance":=by rfl)
 (he:starEach [a,.Name y py] X.env=(false,eval a X.env)::(false,eval (.Name y py) X.env)::[]:=by rfl) (hpl:(backTo pos (starEach [.Name y py] X.env)).any (·.1)=false:=by rfl) (he2:starEach [.Name y py] X.env=[(false,eval (.Name y py) X.env)]:=by rfl) :
 PD X (.Call (.Name "isinstance" p) [a,.Name y py] [] pos) (gIsi f ga):=by
 refine⟨fun pins s σ H F Γ I fo rl hgg=>?_⟩
 refine wpAny_Call_Name_kw (z2t I hg hm (by decide +kernel:bootBuiltins "isinstance"=some (.builtin "isinstance")) ?_ (by decide) (by decide))
 refine PyProof.Rows.callWith_builtin1 ?_ (by rw[he,he2]) hpl
 rw[he]
 show wpAny _ _ (spliced ((false,eval a X.env)::backTo pos [(false,eval (.Name y py) X.env)])) _ _ s
 refine Calls.spliced_cons (wpAny_mono (ha.run pins s σ H F Γ I fo rl (R.left hgg)) (fun u s1 ⟨d,v,H1,e1,I1,r1,S1,i1⟩=>?_) fun _ _ x=>x.bind _)
 show wpAny _ _ (spliced ((false,eval (.Name y py) X.env)::backTo pos [])) _ _ s1
 refine Calls.spliced_cons (hb I1 (Calls.spliced_nil ?_))
 obtain⟨hnx,e2⟩:=x6x (R.next hgg e1)
 exact x8r I1 hnx i1 r1 (hk d hnx) fun tk=>Post.bind e1 S1 ⟨.bl (f d.ty),.bl (f d.ty),H1,e2,I1.tok _,rfl,.refl _,Is.bl_iff.mpr rfl⟩
theorem x8p{K:PySem.W.Frag}(d:D)(h:d.noX=true):PySem.W.kitOne K (.type d.ty) (.type "int")=some (z5y d.ty):=by cases d<;>first | rfl | (simp[D.noX] at h)
theorem x4i{K:PySem.W.Frag}(d:D)(h:d.noX=true):PySem.W.kitOne K (.type d.ty) (.type "bool")=some (z4b d.ty):=by cases d<;>first | rfl | (simp[D.noX] at h)
theorem x6k{K:PySem.W.Frag}(d:D)(h:d.noX=true):PySem.W.kitOne K (.type d.ty) (.type "tuple")=some (z3y d.ty):=by cases d<;>first | rfl | (simp[D.noX] at h)
theorem x8o{K:PySem.W.Frag}(d:D)(h:d.noX=true):PySem.W.kitOne K (.type d.ty) (.type "str")=some (z5x d.ty):=by cases d<;>first | rfl | (simp[D.noX] at h)
theorem z4o{x:Str}{i:Int}{u:Value}(hm:X.mg x=some u)(hu:∃t,u = .int i t)(hg:Gl X x:=by rfl)(hd:(x==("__debug__":Str))=false:=by decide):PD X (.Name x pos) (gC (.int i)) :=
 y9f hg hm (v:=.int i) hu (fun _=>Is.int_iff.mpr rfl) hd
end
theorem FnF.mono{P:Program}{w:World}{K:PySem.W.Frag}{mg:Str->Option Value}{base:Heap}{j k:Nat}{f:Addr}{fd:FuncData}{ps:List Str}{φ:List D->R (List D)}(F:FnF P w K mg base j f fd ps φ)(h:j<=k):FnF P w K mg base k f fd ps φ:=⟨F.ok.mono h,F.binds,F.kp⟩
noncomputable def spN(φ:List D->R D)(K:PySem.W.Frag):Sp:=fun vs H Q _=>∃ds d,IsAll K H ds vs/\φ ds = .ok d/\(∀v H',Same H H'->Is K H' d v->Q v H')
theorem x7h{φ:List D->R D}{K:PySem.W.Frag}{mg:Str->Option Value}{vs:List V}{H:Hp}{Q:VK}{E:XK}(h:spN φ K vs H Q E):spD K mg φ vs H Q E:=by
 obtain⟨ds,d,i,e,q⟩:=h
 exact⟨ds,i,(by rw[e];exact(fun z=>nomatch z)),(fun d' v H' e' S iv=>by rw[e] at e';cases e';exact q v H' S iv),(fun c C H' e'=>by rw[e] at e';cases e')⟩
theorem FnD.okN{P:Program}{w:World}{K:PySem.W.Frag}{mg:Str->Option Value}{base:Heap}{k:Nat}{f:Addr}{fd:FuncData}{ps:List Str}{φ:List D->R D}(F:FnD P w K mg base k f fd ps φ):FnOk P w K mg base (CXE P w) k f fd ps (spN φ K) :=
 F.ok.imp fun _ _ _ _ h=>x7h h
theorem law_true{c:List D->R D}(hc:∀ns:List Int,ns.length<=63->c [.lst (ns.map D.int)] = .ok (.bl true)){K:PySem.W.Frag}{H:Hp}{a:Addr}{ns:List Int}(hl:ns.length<=63)(hS:SqL K H a (ns.map V.int)):spN c K [.ref a] H (fun v _=>v = .bl true) fun _ _ _=>False :=
 ⟨[.lst (ns.map D.int)],.bl true,IsAll.cons (Is.lst_iff.mpr ⟨a,_,rfl,hS,IsAll.ints ns⟩) IsAll.nil,hc ns hl,fun v H' _ iv=>Is.bl_iff.mp iv⟩
theorem cxe_false{P:Program}{w:World}{H:Hp}{s:Shared}{e:Value}{s':Shared}(h:CXE P w [] H s (fun _ _ _=>False) e s'):False:=by
 obtain⟨_,_,_,_,_,_,_,_,_,_,_,_,_,_,_,_,_,_,_,_,_,_,_,_,_,_,z⟩:=h
 exact z
theorem walk_ofL{l:PySem.W.OpenLaw}{n k:Nat}{q:Program}{loose:List Str}{XP:(Str->Option Value)->Heap->Prop}{YP:World->Heap->Prop}{d:DefRec}{K:Params->PySem.W.Frag}{CX:World->CXT}(sp:PySem.W.Frag->Sp){x:Str}
 (hn:l.most=some n) (hn2:n<=sizeLine) (hdf:d.params.defaults=[]) (hr:Room k callerA)
 (hY:∀(w:World) (h:Heap),YP w h->(K w.params).In h)
 (F:∀(w:World) (mg:Str->Option Value) (fa:Addr) (h:Heap),(K w.params).In h->h.Ns mainGlobals mg->mg d.name=some (.ref fa) ->
   ∃fd:FuncData,(∀(s:Shared) (u:Value),BindsTo s fd ⟨[u],[]⟩ [(x,u)]) /\
    ∀base:Heap,(K w.params).In base->base.Ns mainGlobals mg->FnOk l.prog w (K w.params) mg base (CX w) k fa fd [x] (sp (K w.params)))
 (hsp:∀(K:PySem.W.Frag) (H:Hp) (a:Addr) (ns:List Int),ns.length<=n->SqL K H a (ns.map V.int)->sp K [.ref a] H (fun v _=>v = .bl true) fun _ _ _=>False)
 (hCX:∀(w:World) (H:Hp) (s:Shared) (e:Value) (s':Shared),CX w [] H s (fun _ _ _=>False) e s'->False) :
 PySem.W.WalkO q loose XP YP l.row.toRowW d [] (fun f vs=>PySem.call f vs) :=
 walk_of (K:=K) (CX:=CX) (sp:=fun w=>sp (K w.params)) hn hn2 hdf hr hY F (fun w H a ns h1 _ h3=>hsp (K w.params) H a ns h1 h3) hCX
end L3
namespace L3
open PySem PySem.Spec PyProof.Rows L2
noncomputable def Its(lo st:Int)(n:Nat):It:=⟨fun i _=>i<n,fun i H x H'=>H'=H/\x = .int (lo+st*(i:Int)),fun i _=>n<=i⟩
theorem y8c{P:Program}{w:World}{K:PySem.W.Frag}{tg:Expr}(it:Addr)(lo st:Int)(n:Nat):Turn P w K tg (Its lo st n) [it] it (fun i h=>IsRangeIter h it (lo+(i:Nat)*st) ((n:Int)-(i:Nat)) st) where
 mem:=by simp
 obj:=fun i h st b hb=>by
  have e:b=it:=by simpa using hb
  subst e
  exact⟨_,st,fun v z=>by
   have z':Data.fields _=Data.cell v:=z
   cases z'⟩
 keep:=fun i h h' st k=>k it (by simp) _ st
 item:=by
  intro X hP hw hK hc i pins s σ H E I hf sx hg
  subst hP hw hK
  obtain⟨f0,f1,f2,f3,f4,f5⟩:=hf it (by simp)
  have W:=Walks.range (prog:=X.prog) (w:=X.w) (I.ok.hd hc) it lo st n
  refine W.item i s _ _ hg sx fun v h' tk hv st' kk=>?_
  obtain⟨t,rfl⟩:=hv
  have I1:Inv X pins σ H { s with heap:=h',toks:=tk }:=I.turned (fun b o hb e=>kk b o (by simpa using hb) e) f0 f1 f3 f4 f5
  refine⟨_,rfl,x0i (s:={ s with heap:=h',toks:=tk }) (n:="range_iterator") st' rfl rfl (by decide) ⟨.int (lo+st*i),H,I1,⟨t,?_⟩,⟨rfl,rfl⟩,st',fun b hb=>(hf b hb).1⟩⟩
  rw[Int.mul_comm]
 done:=by
  intro X hP hw hK hc i pins s σ H E I hf sx hg
  subst hP hw hK
  obtain⟨f0,f1,f2,f3,f4,f5⟩:=hf it (by simp)
  exact wpAny_pyNext_range_end (I.ok.hd hc) sx (by have:n<=i:=hg;lia) fun h' eb=>⟨rfl,I.turned (t':=s.toks) (fun b o hb e=>eb b o hb e) f0 f1 f3 f4 f5⟩
 self:=fun _ _ _ _ _ st h=>wpAny_pyIter_rangeiter st h
theorem z6n{a b c:Int}(hc:0<c):Builtin.Range.rangeSize a b c=((z6m a b c:Nat):Int):=by
 unfold Builtin.Range.rangeSize z6m
 rw[if_pos hc]
 by_cases h:a<b
 ·rw[if_pos h,show b-a+c-1=(b-a-1)+c*1 by lia,Int.add_mul_ediv_left _ _ (by lia)]
  have:0<=(b-a-1)/c:=Int.ediv_nonneg (by lia) (by lia)
  lia
 ·rw[if_neg h]
  have h1:(b-a+c-1)/c<=0:=by
   have:(b-a+c-1)/c<=(c-1)/c:=Int.ediv_le_ediv hc (by lia)
   have h2:(c-1)/c=0:=Int.ediv_eq_zero_of_lt (by lia) (by lia)
   lia
  lia
theorem x1o{a b c:Int}(hc:0<c)(h:a<=b):((z6m a b c:Nat):Int)<=b-a:=by
 rw[<-z6n hc]
 unfold Builtin.Range.rangeSize
 rw[if_pos hc]
 by_cases h:a<b
 ·rw[if_pos h]
  have:=Int.ediv_le_self (a:=b-a-1) c (by lia)
  lia
 ·rw[if_neg h];lia
theorem y6w{a b c:Int}(ha:-1073741824<=a)(ha':a<1073741824)(hb:-1073741824<=b)(hb':b<1073741824)(hc:0<c)(hc':c<1073741824):Builtin.Range.small a b c=true:=by
 unfold Builtin.Range.small
 have hs:((z6m a b c:Nat):Int)<=4294967296:=by
  by_cases h:a<=b
  ·have:=x1o hc h;lia
  ·rw[<-z6n hc]
   unfold Builtin.Range.rangeSize
   rw[if_pos hc,if_neg (by lia)];lia
 rw[z6n hc]
 generalize z6m a b c=n at *
 simp only[Builtin.Range.rangeFitsLong,Bool.and_eq_true,Bool.or_eq_true,decide_eq_true_eq,beq_iff_eq,if_pos (show c>0 from hc)]
 lia
section
variable {X:Cx}{tg a b c:Expr}{ga gb gc:G->R D}
theorem x4t{pins:List (Addr×Obj)}{σ:St}{H:Hp}{s:Shared}{R:It->Hp->Prop}{E:Value->Shared->Prop}{lo hi st:Int}{t u v:Tok}{tk:Nat}(I:Inv X pins σ H s)(h1:-1073741824<=lo)(h2:lo<1073741824)(h3:-1073741824<=hi)(h4:hi<1073741824)(h5:0<st)(h6:st<1073741824)
 (q:R (Its lo st (z6m lo hi st)) H):wpAny (model X.prog X.w) X.A (pyIter (.ref s.heap.objs.size)) (PIE X pins σ tg R) E { s with heap:=s.heap.push { cls:=.type "range",data:=.fields #[.int lo t,.int hi u,.int st v] },toks:=tk }:=by
 refine wpAny_pyIter_range (IsRange.new ..) (y6w h1 h2 h3 h4 h5 h6) ?_
 have I1:Inv X pins σ H { s with heap:=s.heap.push { cls:=.type "range",data:=.fields #[.int lo t,.int hi u,.int st v] },toks:=tk }:=I.kept fun b o e=>Heap.get?_push_of_some _ e
 refine⟨(s.heap.push { cls:=.type "range",data:=.fields #[.int lo t,.int hi u,.int st v] }).objs.size,[(s.heap.push { cls:=.type "range",data:=.fields #[.int lo t,.int hi u,.int st v] }).objs.size],_,_,H,rfl,
  I1.kept (t':=tk) fun b o e=>Heap.get?_push_of_some _ e,y8c _ lo st (z6m lo hi st),?_,fun b hb=>?_,q⟩
 ·have e1:lo+((0:Nat):Int)*st=lo:=by simp
  have e2:((z6m lo hi st:Nat):Int)-((0:Nat):Int)=Builtin.Range.rangeSize lo hi st:=by rw[z6n h5];lia
  show IsRangeIter _ _ (lo+((0:Nat):Int)*st) (((z6m lo hi st:Nat):Int)-((0:Nat):Int)) st
  rw[e1,e2]
  exact Heap.get?_push_size _ rfl
 ·have e:b=(s.heap.push { cls:=.type "range",data:=.fields #[.int lo t,.int hi u,.int st v] }).objs.size:=by simpa using hb
  subst e
  exact I1.fpOk (Nat.le_refl _) (I1.hok.fresh (Nat.le_refl _))
theorem y8h(lo st:Int)(n:Nat):(z7e lo st n).length=n:=by unfold z7e;simp
theorem x6l{K:PySem.W.Frag}{H:Hp}{F:List Addr}(lo st:Int)(n:Nat):JD K H F (Its lo st n) (z7e lo st n):=fun H1 S=>by
 rw[y8h]
 refine⟨fun j hj=>⟨hj,fun x H2 y=>⟨y.1,.int (lo+st*(j:Int)),by unfold z7e;simp[hj],fun F' _=>?_⟩⟩,Nat.le_refl _⟩
 exact Is.int_iff.mpr y.2
theorem y7e{p pos:Pos}(ha:PD X a ga)(hb:PD X b gb)(hc:PD X c gc)(hm:X.mg "range"=none)(hg:Gl X "range":=by rfl)(hs:starEach [a,b,c] X.env=[(false,eval a X.env),(false,eval b X.env),(false,eval c X.env)]:=by rfl)(hs2:starEach [b,c] X.env=[(false,eval b X.env),(false,eval c X.env)]:=by rfl) :
 PIF X tg (.Call (.Name "range" p) [a,b,c] [] pos) (y4v ga gb gc):=by
 refine⟨fun pins s σ H F Γ I fo rl hgg=>?_⟩
 refine Call_ (z2t I hg hm boot_range (PyProof.Rows.callWith_type1 ?_ (by rw[hs,hs2]) (by rw[hs2];rfl)))
 rw[hs]
 show wpAny _ _ (spliced ((false,eval a X.env)::backTo pos [(false,eval b X.env),(false,eval c X.env)])) _ _ s
 refine Calls.spliced_cons (wpAny_mono (ha.run pins s σ H F Γ I fo rl (R.left hgg)) (fun u s1 ⟨d,v,H1,e1,I1,r1,S1,i1⟩=>?_) fun _ _ x=>x.bind _)
 have hg1:=R.next hgg e1
 show wpAny _ _ (spliced ((false,eval b X.env)::backTo pos [(false,eval c X.env)])) _ _ s1
 refine Calls.spliced_cons (wpAny_mono (hb.run pins s1 σ H1 F Γ I1 (fo.same S1) (rl.same S1) (R.left hg1)) (fun u2 s2 ⟨d2,v2,H2,e2,I2,r2,S2,i2⟩=>?_) fun _ _ x=>z1a.later e1 S1 (x.bind _))
 have hg2:=R.next hg1 e2
 show wpAny _ _ (spliced ((false,eval c X.env)::backTo pos [])) _ _ s2
 refine Calls.spliced_cons (wpAny_mono (hc.run pins s2 σ H2 F Γ I2 ((fo.same S1).same S2) ((rl.same S1).same S2) (R.left hg2)) (fun u3 s3 ⟨d3,v3,H3,e3,I3,r3,S3,i3⟩=>Calls.spliced_nil ?_) fun _ _ x=>z1a.later e1 S1 (z1a.later e2 S2 (x.bind _)))
 have hg3:=R.next hg2 e3
 cases d with
 | int i =>
   cases d2 with
   | int j =>
     cases d3 with
     | int k =>
       obtain⟨⟨⟨h1,h2⟩,⟨h3,h4⟩,h5,h6⟩,e4⟩:=R.guard_ne (show R.guard ((-1073741824<=i/\i<1073741824)/\(-1073741824<=j/\j<1073741824)/\0<k/\k<1073741824) (.ok (z7e i k (z6m i j k))) ≠ .no from hg3)
       rw[Is.int_iff.mp i1] at r1
       rw[Is.int_iff.mp i2] at r2
       rw[Is.int_iff.mp i3] at r3
       obtain⟨t,rfl⟩:=(show ∃t,u=Value.int i t from r1)
       obtain⟨t',rfl⟩:=(show ∃t,u2=Value.int j t from r2)
       obtain⟨t'',rfl⟩:=(show ∃t,u3=Value.int k t from r3)
       refine call_range_3 (by lia) (thn (x4t (tg:=tg) (R:=fun J H'=>J=Its i k (z6m i j k)/\H'=H3) I3 h1 h2 h3 h4 h5 h6 ⟨rfl,rfl⟩) fun itv s4 ⟨it,fp,tn,J,H',ei,I4,T,t0,fk,eJ,eH⟩=>?_) (.inl (PyProof.noPylong_small (by lia)))
       subst eJ eH
       exact⟨_,it,fp,tn,_,H',(R.step e1 _).trans ((R.step e2 _).trans ((R.step e3 _).trans e4)),ei,I4,(S1.trans S2).trans S3,T,t0,fk,x6l i k _⟩
     | _=>exact absurd rfl hg3
   | _=>exact absurd rfl hg3
 | _=>exact absurd rfl hg3
end
section
variable {prog:Program}{w:World}{A:Around}{E:Value->Shared->Prop}{s:Shared}
open HT in
theorem z6g{t sl:Addr}{items:Array Value}{vl vu:Value}{lo hi:Option Int}{Q:Value->Shared->Prop}(ht:IsTup s.heap t items)(hs:s.heap.IsSliceOf sl vl vu .none)(pl:IsPart vl lo)(pu:IsPart vu hi)
 (hw:HT.sIx items.size 0 lo=0/\HT.sIx items.size items.size hi=items.size) (h:Q (.ref t) s):wpAny (model prog w) A (getItem (.ref t) (.ref sl)) Q E s:=by
 obtain⟨os,hos,hcs,hds⟩:=id hs
 have hTs:s.TypeIs (.ref sl) "slice":=⟨os,hos,hcs⟩
 unfold getItem
 try with_reducible refine wpAny_holding ?_
 first | refine wpAny_bind (wpAny_pure ?_) | skip
 refine wpAny_bind (wpAny_sequenceKey ht.typeIs (by decide) ?_)
 refine wpAny_bind (wpAny_callSpecial?_slot (name:=Str.ofString "__getitem__") ht.typeIs PyProof.Rows.slot_tuple_getitem
  (wpAny_call_entry PyProof.Rows.slot_tuple_getitem ht.typeIs entry_tuple_getitem ?_ (args_tuple_getitem _ _)))
 show wpAny _ _ (Builtin.Tuple.tupleItemsOf (.ref t)>>=_) _ _ s
 refine wpAny_bind (tupleItemsOf_ ht ?_)
 refine wpAny_bind (wpAny_typeOf hTs ?_)
 rw[if_pos (by decide)]
 refine wpAny_bind (z4s hs pl pu ?_)
 have hyes:(((HT.sIx items.size 0 lo:Nat):Int)==0&&(1:Int)==1&&(HT.sIx items.size items.size hi-HT.sIx items.size 0 lo)==items.size)=true:=by
  rw[hw.1,hw.2];simp
 show wpAny _ _ (if (((HT.sIx items.size 0 lo:Nat):Int)==0&&(1:Int)==1&&(HT.sIx items.size items.size hi-HT.sIx items.size 0 lo)==items.size)=true then _ else _) _ _ s
 rw[if_pos hyes]
 unfold Builtin.Tuple.tupleIsExact
 refine wpAny_bind (wpAny_bind (wpAny_typeOf ht.typeIs ?_))
 refine wpAny_pure ?_
 rw[if_pos (by decide)]
 exact wpAny_bind (wpAny_rule (wpAny_pure ⟨_,rfl,wpAny_pure h⟩))
end
section
variable {X:Cx}{e a b c:Expr}{g ga gb gc:G->R D}{lo hi:Option Expr}{gl gh:G->R (Option Int)}{pos p2:Pos}
noncomputable def rSlW(K:PySem.W.Frag):V->Option Int->Option Int->Hp->VK->Prop:=fun x lo hi H Q=>∃a xs,x = .ref a/\SqT K H a xs/\(HT.sIx xs.length 0 lo=0/\HT.sIx xs.length xs.length hi=xs.length)/\Q (.ref a) H
theorem x4u:SlR X (rSlW X.K):=by
 intro pins s σ H x v vl vu lo hi sl Q I rx hs pl pu h
 obtain⟨a,xs,rfl,hx,hw,q⟩:=h
 cases rx
 obtain⟨its,r,ht,hz⟩:=I.tuple hx
 have hlen:its.toArray.size=xs.length:=by rw[List.size_toArray];exact r.length.symm
 refine⟨"tuple",_,PyProof.Rows.slot_tuple_getitem.lookup,ht.typeIs,?_⟩
 exact z6g ht hs pl pu (by rw[hlen];exact hw) ⟨.ref a,H,I,rfl,q⟩
structure POD (X:Cx) (e:Option Expr) (g:G->R (Option Int)):Prop where
 run:∀(pins:List (Addr×Obj)) (s:Shared) (σ:St) (H:Hp) (F:List Addr) (Γ:G),Inv X pins σ H s->FOk H F->Rel X.K H F Γ σ->g Γ ≠ .no ->
  wpAny (model X.prog X.w) X.A (evalPart e X.env) (fun u s'=>∃o H',g Γ = .ok o/\Inv X pins σ H' s'/\IsPart u o/\Same H H') (z1a X pins σ H (g Γ)) s
theorem podN:POD X none gON:=⟨fun pins s σ H F Γ I fo rl hg=>by
 rw[evalPart_none]
 exact wpAny_pure ⟨none,H,rfl,I,.none,.refl _⟩⟩
theorem podS(h:PD X e g):POD X (some e) (gOS g):=⟨fun pins s σ H F Γ I fo rl hg=>by
 rw[evalPart_some]
 refine wpAny_mono (h.run pins s σ H F Γ I fo rl (R.left hg)) (fun u s1 ⟨d,x,H1,e1,I1,r1,S1,i1⟩=>?_) fun _ _ x=>x.bind _
 have hg1:=R.next hg e1
 cases d with
 | int i =>
   rw[Is.int_iff.mp i1] at r1
   obtain⟨t,rfl⟩:=(show ∃t,u=Value.int i t from r1)
   exact⟨some i,H1,R.step e1 _,I1,.int i t,S1⟩
 | _=>exact absurd rfl hg1⟩
theorem IsAll.cut{K:PySem.W.Frag}{H:Hp}{ds:List D}{xs:List V}(h:IsAll K H ds xs)(lo hi:Option Int):IsAll K H (cutL ds lo hi) (cutV xs lo hi):=by
 have hl:=h.length
 unfold cutL cutV
 rw[hl]
 exact(h.drop _).take _
theorem x3p{r:V->Option Int->Option Int->Hp->VK->Prop}(hr:SlR X.nox r)(ha:PD X a ga)(hl:POD X lo gl)(hh:POD X hi gh){pins:List (Addr×Obj)}{s:Shared}{σ:St}{H:Hp}{F:List Addr}{Γ:G}(I:Inv X pins σ H s)(fo:FOk H F)(rl:Rel X.K H F Γ σ)
 {α:Type} {rr:R α} {k:D->Option Int->Option Int->R α} (hrr:rr=(ga Γ>>=fun d=>gl Γ>>=fun l=>gh Γ>>=fun h=>k d l h)) (hg:rr ≠ .no) {Q:Value->Shared->Prop}
 (hq:∀d x l h H3,k d l h ≠ .no->rr=k d l h->Same H H3->Is X.K H3 d x->FOk H3 F->Rel X.K H3 F Γ σ->r x l h H3 fun z H'=>∀u s',Inv X pins σ H' s'->RelV z u->Q u s') :
 wpAny (model X.prog X.w) X.A (eval (.Subscript a (.Slice lo hi none p2) pos) X.env) Q (z1a X pins σ H rr) s:=by
 subst hrr
 refine Subscript_ (wpAny_mono (ha.run pins s σ H F Γ I fo rl (R.left hg)) (fun v s1 ⟨d,x,H1,e1,I1,r1,S1,i1⟩=>?_) fun _ _ x=>x.bind _)
 have hg1:=R.next hg e1
 refine wpAny_Slice (wpAny_mono (hl.run pins s1 σ H1 F Γ I1 (fo.same S1) (rl.same S1) (R.left hg1)) (fun vl s2 ⟨l,H2,e2,I2,pl,S2⟩=>?_) fun _ _ x=>z1a.later e1 S1 (x.bind _))
 have hg2:=R.next hg1 e2
 refine wpAny_mono (hh.run pins s2 σ H2 F Γ I2 ((fo.same S1).same S2) ((rl.same S1).same S2) (R.left hg2)) (fun vu s3 ⟨h,H3,e3,I3,pu,S3⟩=>?_) fun _ _ x=>z1a.later e1 S1 (z1a.later e2 S2 (x.bind _))
 have hg3:=R.next hg2 e3
 have S03:=(S1.trans S2).trans S3
 rw[evalPart_none]
 refine wpAny_pure ?_
 have I4:Inv X pins σ H3 { s3 with heap:=s3.heap.push { cls:=.type "slice",data:=.fields #[vl,vu,.none] } }:=I3.kept (t':=s3.toks) fun b ob q=>Heap.get?_push_of_some _ q
 obtain⟨T,id,hT,ht,hgi⟩:=hr pins { s3 with heap:=s3.heap.push { cls:=.type "slice",data:=.fields #[vl,vu,.none] } } σ H3 x v vl vu l h s3.heap.objs.size _ (I4.wish _) r1 (Heap.IsSliceOf.new ..) pl pu (hq d x l h H3 hg3 ((R.step e1 _).trans ((R.step e2 _).trans (R.step e3 _))) S03 ((i1.same S2).same S3) (fo.same S03) (rl.same S03))
 show wpAny (model X.prog X.w) X.A (subscriptTail a (.Slice lo hi none p2) v (.ref s3.heap.objs.size)) _ _ { s3 with heap:=s3.heap.push { cls:=.type "slice",data:=.fields #[vl,vu,.none] } }
 refine tail_any (ops:=[.ref s3.heap.objs.size,v]) ht hT (wpAny_mono hgi (fun u s5 ⟨z,H5,I5,rz,q5⟩=>q5 u s5 I5.unwish rz) fun _ _ z=>False.elim z) (by with_unfolding_all rfl)
theorem y4j(ha:PD X a ga)(hl:POD X lo gl)(hh:POD X hi gh):PD X (.Subscript a (.Slice lo hi none p2) pos) (gSl ga gl gh):=⟨fun pins s σ H F Γ I fo rl hg =>
 x3p (SlR.or (SlR.or x7i x4u) y8l) ha hl hh I fo rl (k:=dCut) rfl hg fun d x l h H3 hk er S i fo3 rl3=>by
  cases d with
  | tup ds =>
    obtain⟨p,xs,rfl,h1,h2⟩:=Is.tup_iff.mp i
    by_cases hw:HT.sIx xs.length 0 l=0/\HT.sIx xs.length xs.length h=xs.length
    ·refine .inl (.inr ⟨p,xs,rfl,h1,hw,fun u s' I' rz=>⟨_,.ref p,H3,er,I',rz,S,Is.tup_iff.mpr ⟨p,xs,rfl,h1,?_⟩⟩⟩)
     have:=h2.cut l h
     unfold cutV at this
     rw[hw.1,hw.2,List.drop_zero,Nat.sub_zero,List.take_length] at this
     exact this
    ·refine .inl (.inl ⟨p,xs,rfl,h1,hw,fun q hq u s' I' rz=>?_⟩)
     have S2:=z1h hq (.tup (cutV xs l h))
     exact⟨_,.ref q,_,er,I',rz,S.trans S2,Is.tup_iff.mpr ⟨q,_,rfl,SqT.of z0l,(h2.cut l h).same S2⟩⟩
  | lst ds =>
    obtain⟨p,xs,rfl,h1,h2⟩:=Is.lst_iff.mp i
    refine .inr ⟨p,xs,rfl,h1,fun q hq u s' I' rz=>?_⟩
    have S2:=z1h hq (.lst (cutV xs l h))
    exact⟨_,.ref q,_,er,I',rz,S.trans S2,Is.lst_iff.mpr ⟨q,_,rfl,SqL.of z0l,(h2.cut l h).same S2⟩⟩
  | _=>exact absurd rfl hk⟩
theorem x9k(ha:PD X a ga)(hl:POD X lo gl)(hh:POD X hi gh):PF X (.Subscript a (.Slice lo hi none p2) pos) (gSlF ga gl gh):=⟨fun pins s σ H F Γ I fo rl hg =>
 x3p y8l ha hl hh I fo rl (k:=y3d) rfl hg fun d x l h H3 hk er S i fo3 rl3=>by
  cases d with
  | lst ds =>
    obtain⟨p,xs,rfl,h1,h2⟩:=Is.lst_iff.mp i
    refine⟨p,xs,rfl,h1,fun q hq u s' I' rz=>?_⟩
    have S2:=z1h hq (.lst (cutV xs l h))
    obtain⟨hn,e5⟩:=R.guard_ne (show R.guard (D.noLs (cutL ds l h)=true) (R.ok (cutL ds l h))≠R.no from hk)
    exact⟨cutL ds l h,q,cutV xs l h,_,er.trans e5,I',rz,S.trans S2,S.free hq,z0l,IsAll.hid ((fo3.same S2).cons z0l) _ _ hn ((h2.cut l h).same S2)⟩
  | _=>exact absurd rfl hk⟩
end
end L3
namespace L3
open PySem PySem.Spec PyProof.Rows L2
section
variable {prog:Program}{w:World}{A:Around}{E:Value->Shared->Prop}{s:Shared}
end
section
variable {X:Cx}{e:Expr}{g:G->R D}{pos pt:Pos}
end
def bmV:List Value:=[.type "ValueError",.type "Exception",.type "BaseException",.type "object"]
noncomputable def x8y(h:Heap)(C:Addr):Prop:=∃bm N nm q bs hdct sn sub ab col dd k0 k1 k2 k3 k5 mN,h.get? C=some (excClassObj nm q C N bs bm hdct sn sub ab col dd k0 k1 k2 k3 k5 "ValueError.__new__")/\h.Ns N mN/\mN "__init__"=none/\OwnTail h bmV bm
theorem x0r{K:PySem.W.Frag}{h:Heap}{C:Addr}(X:K.In h)(q:PySem.W.excIn K C bmV "ValueError.__new__"=true):x8y h C:=by
 unfold PySem.W.excIn at q
 cases e:K.lookup C with
 | none=>rw[e] at q;cases q
 | some o =>
   rw[e] at q
   obtain⟨cls,dd,data,sl⟩:=o
   split at q
   ·rename_i heq
    obtain⟨rfl,rfl,rfl,rfl⟩:cls=_/\dd=_/\data=_/\sl=_:=by
     have z:=Option.some.inj heq
     injection z with z1 z2 z3 z4
     exact⟨z1,z2,z3,z4⟩
    split at q
    ·rename_i hm hs
     rename_i cd xa xb C' bm k0 k1 k2 k3 n k5
     simp only[Bool.and_eq_true,beq_iff_eq,Bool.not_eq_true'] at q
     obtain⟨⟨⟨⟨⟨q1,q2⟩,q3⟩,q4⟩,q5⟩,q6⟩:=q
     obtain⟨nm,bs,mro,ns,qn,hd,sn,sub,ab,col,del⟩:=cd
     subst q1 q2
     have h1:mro = .ref C'::bm:=hm
     have h2:del=false:=q3
     subst h1 h2
     have h3:sl=#[k0,k1,k2,k3,some (.builtin "ValueError.__new__"),k5]:=by
      cases sl with | mk l=>exact congrArg Array.mk hs
     subst h3
     exact⟨bm,ns,nm,qn,bs,hd,sn,sub,ab,col,dd,k0,k1,k2,k3,k5,_,X _ _ e,.of_isNs (PySem.W.isNs_of_in X q5),PySem.W.nsMap_none_of_in X q5 q6,PySem.W.tail_of_in X q4⟩
    ·cases q
   ·cases q
structure XOk (K:PySem.W.Frag) (mg:Str->Option Value) (c:Er) (C:Addr):Prop where
 ns:PySem.W.nsIn K mainGlobals c.nm=some (some (.ref C))
 mg:mg c.nm=some (.ref C)
 ex:PySem.W.excIn K C bmV "ValueError.__new__"=true
section
variable {X:Cx}{e:Expr}{g:G->R D}{pos np cpos:Pos}
theorem w0f{pins:List (Addr×Obj)}{σ:St}{H:Hp}{s:Shared}{q:Addr}(I:Inv X pins σ H s)(hq:s.heap.get? q=none):H q=none:=by
 cases e:H q with
 | none=>rfl
 | some o=>obtain⟨ob,h⟩:=x4e (I.hok q o e);rw[hq] at h;cases h
theorem z1l{c:Er}{C:Addr}{x:Str}{d:D}(hX:XOk X.K X.mg c C)(he:PD X e (gC d))(hc:X.calm=true)(hex:X.ex=[]:=by rfl)(hxn:x=c.nm:=by rfl)(hg:Gl X x:=by rfl)(hdb:(x==("__debug__":Str))=false:=by decide)
 (hs:starEach [e] X.env=(false,eval e X.env)::starEach [] X.env:=by rfl):PQ X (.Raise (some (.Call (.Name x np) [e] [] cpos)) none pos) (z2d c):=by
 refine⟨fun pins s σ H F Γ I fo rl _=>?_⟩
 subst hxn
 obtain⟨bm,N,nm,q,bs,hdct,sn,sub,ab,col,dd,k0,k1,k2,k3,k5,mN,hC,hN,hni,T⟩:=x0r I.mod.kin hX.ex
 refine wpAny_Raise_call_subT (C:=C) (nm:=nm) (q:=q) (N:=N) (bs:=bs) (bm:=bm) (hdct:=hdct) (sn:=sn) (sub:=sub) (ab:=ab) (col:=col) (dd:=dd) (k0:=k0) (k1:=k1) (k2:=k2) (k3:=k3) (k5:=k5)
  PySem.F.excBase_ValueError (mN:=mN) (T.hasType PySem.F.excBase_ValueError.hasBase) (I.ok.hd hc) (by rw[hs];rfl) hni (z6f I hg hX.mg ⟨rfl,?_⟩ hdb)
 rw[hs]
 refine Calls.evalArgs_plain (Calls.spliced_cons (wpAny_mono (he.run pins s σ H F Γ I fo rl (fun z=>nomatch z)) (fun u s1 ⟨d',v,H1,e1,I1,r1,S1,i1⟩=>Calls.spliced_nil ?_) fun x s1 ⟨c',H',e',_⟩=>by cases e'))
 refine⟨rfl,by show 1<=sizeLine;decide,I1.bk _ _ hC,hN.keeps I1.bk,T.keeps I1.bk,fun h' en M=>?_⟩
 obtain⟨t,hte,ht0,ht1⟩:=M.there
 have I2:Inv X pins σ H1 { s1 with heap:=h' }:=I1.kept (t':=s1.toks) fun b o q=>M.keeps b o q
 obtain⟨g1,g2,g3,g4⟩:=I1.gone hex M.new
 exact⟨c,Γ,σ,H1,F,rfl,⟨I2,en,C,_,_,rfl,hX.mg,w0f I1 M.new,g1,g2,g3,g4,hte,rfl,rfl,⟨_,rfl⟩,.inl rfl⟩,fo.same S1,rl.same S1,.of_same S1⟩
end
section
variable {K:PySem.W.Frag}{M:Model}{A:Around}{E:Value->Shared->Prop}{s:Shared}
end
structure XCls (K:PySem.W.Frag) (C:Addr):Prop where
 ga:PySem.W.findIn K (.ref C) "__getattribute__"=some (some (.builtin "BaseException.__getattribute__"))
 gn:PySem.W.findIn K (.ref C) "__getattr__"=some none
 cl:PySem.W.findIn K (.ref C) "__class__"=some (some (.builtin "object.__class__"))
 mo:PySem.W.mroIn K C (.type "object")=some true
 mb:PySem.W.mroIn K C (.type "BaseException")=some true
 ty:PySem.W.typeIn K (.ref C)=some (.type "type")
 is:(PySem.W.clsIn K C).isSome=true
section
variable {K:PySem.W.Frag}{prog:Program}{w:World}{A:Around}{E:Value->Shared->Prop}{s:Shared}{a C:Addr}{o:Obj}
end
section
variable {X:Cx}{pos p pn:Pos}
structure PCl (X:Cx) (es:List Expr) (vs:List Value):Prop where
 run:∀{E:Value->Shared->Prop} {pos:Pos} {pins:List (Addr×Obj)} {σ:St} {H:Hp} {s:Shared} {Q:List Value->Shared->Prop},Inv X pins σ H s->Q vs s->wpAny (model X.prog X.w) X.A (spliced (backTo pos (starEach es X.env))) Q E s
theorem y8u{e:Expr}{g:G->R D}(he:PD X e g)(hs:swapsWith e none pos.line X.env=pure false:=by rfl):PQ X (.Expr e pos) (gEx g):=⟨fun pins s σ H F Γ I fo rl hg =>
 wpAny_Expr_any (wpAny_mono (he.run pins s σ H F Γ I fo rl (z1p hg)) (fun u s1 ⟨d,v,H',e1,I',rv,S,i⟩=>⟨Γ,z2x e1,σ,H',F,I',fo.same S,rl.same S,.of_same S⟩) fun _ _ x=>x.lift fo rl _) I.quiet hs⟩
noncomputable def mk(X:Cx)(v:Value):Cx:={ X with A:=X.A.mark (some v),calm:=false }
end
section
variable {X:Cx}{pos np hpos:Pos}
structure ErrOk (X:Cx) (B:Addr):Prop where
 cl:XCls X.K B
 ns:∀(c:Er) (C:Addr),X.mg c.nm=some (.ref C)->PySem.W.nsIn X.K mainGlobals c.nm=some (some (.ref C))/\PySem.W.mroIn X.K C (.ref B)=some true
end
section
variable {X:Cx}{pos p pn:Pos}
end
section
variable {X:Cx}{e a b c:Expr}{g ga gb gc:G->R D}{pos pos':Pos}{es:List Expr}{gs:G->R (List D)}
end
section
variable {P:Program}{w:World}{K:PySem.W.Frag}{mg:Str->Option Value}{base:Heap}
theorem y2z{x qual:Str}{st:Stmt}{f:Addr}{fd:FuncData}{N ps:List Str}{k:Nat}(Fu:Fun K x qual st f fd)(S:FnScope N ps (z0g st))(hb:z6h K fd ps []):FnD P w K mg base (k+1) f fd ps (fun _=>.no):=by
 refine⟨?_,hb,Fu.kp⟩
 obtain⟨oc,od,kV,doc,pm,an,cdv,ct,osl,rfl,lk,hcd⟩:=Fu.ex
 exact y7u lk hcd S (fun vs H Q E h=>absurd rfl h.choose_spec.2.1) fun A outer s H vs Q E hr hsp=>absurd rfl hsp.choose_spec.2.1
theorem x0o{x qual:Str}{st:Stmt}{f:Addr}{fd:FuncData}{N ps:List Str}{k:Nat}(Fu:Fun K x qual st f fd)(S:FnScope N ps (z0g st))(hb:z6h K fd ps []):FnF P w K mg base (k+1) f fd ps (fun _=>.no):=by
 refine⟨?_,hb,Fu.kp⟩
 obtain⟨oc,od,kV,doc,pm,an,cdv,ct,osl,rfl,lk,hcd⟩:=Fu.ex
 exact y7u lk hcd S (fun vs H Q E h=>absurd rfl h.choose_spec.2.1) fun A outer s H vs Q E hr hsp=>absurd rfl hsp.choose_spec.2.1
end
section
variable {X:Cx}{e a b c:Expr}{g ga gb gc:G->R D}{pos pos' p p2:Pos}{es:List Expr}{gs:G->R (List D)}{lo hi:Option Expr}{gl gh:G->R (Option Int)}
noncomputable def x9f(K:PySem.W.Frag):R2:=fun x y H Q=>∃l b xs zs,x = .ref l/\y = .ref b/\SqL K H l xs/\SqL K H b zs/\xs.length+zs.length<=sizeLine/\∀p,H p=none->Q (.ref p) (upd H p (.lst (xs++zs)))
theorem x5u:OpR X (binaryOp .Add) (x9f X.K):=by
 intro pins s σ H x y v u Q I rx ry h
 obtain⟨l,b,xs,zs,rfl,rfl,hH,hB,hz,q⟩:=h
 cases rx
 cases ry
 obtain⟨i1,r1,pl1,_⟩:=I.list hH
 obtain⟨i2,r2,pl2,_⟩:=I.list hB
 have n1:=r1.length
 have n2:=r2.length
 obtain⟨⟨c1,d1,t1,s1⟩,o1,k1,m1,j1⟩:=pl1.isList
 obtain⟨⟨c2,d2,t2,s2⟩,o2,k2,m2,j2⟩:=pl2.isList
 simp only at k1 j1 k2 j2
 subst k1 j1 k2 j2
 refine concat_meets ⟨_,o1,rfl⟩ ⟨_,o2,rfl⟩ noFill_list_add seq_list_add PySem.F.slot_list_add PySem.F.entry_list_add (PySem.F.args_list_add_2 _ _) (list_addW l b i1.toArray i2.toArray m1 m2 d1 d2 s1 s2 (by simp only[List.size_toArray];lia)) ⟨o1,o2,?_⟩
 have ea:i1.toArray++i2.toArray=(i1++i2).toArray:=by simp
 rw[ea]
 exact⟨.ref _,_,I.lnew (t':=s.toks) (r1.append r2) (by rw[List.length_append];lia),rfl,q _ I.fresh⟩
theorem z8u(ha:PD X a ga)(hb:PD X b gb):PF X (.BinOp a .Add b pos) (z7k ga gb):=by
 refine⟨fun pins s σ H F Γ I fo rl hg=>?_⟩
 refine wpAny_BinOp (wpAny_mono (ha.run pins s σ H F Γ I fo rl (R.left hg)) (fun v s1 ⟨dx,x,H1,e1,I1,r1,S1,i1⟩=>?_) fun _ _ x=>x.bind _)
 have hg1:=R.next hg e1
 refine wpAny_mono (hb.run pins s1 σ H1 F Γ I1 (fo.same S1) (rl.same S1) (R.left hg1)) (fun u s2 ⟨dy,y,H2,e2,I2,r2,S2,i2⟩=>?_) fun _ _ x=>z1a.later e1 S1 (x.bind _)
 have hgx:=R.next hg1 e2
 have i1':=i1.same S2
 have key:∀xs ys,dx = .lst xs->dy = .lst ys->∃zx zy,x = .ref zx/\y = .ref zy/\∃vx vy,SqL X.K H2 zx vx/\SqL X.K H2 zy vy/\IsAll X.K H2 xs vx/\IsAll X.K H2 ys vy:=fun xs ys q1 q2=>by
  subst q1 q2
  obtain⟨zx,vx,rfl,a1,a2⟩:=Is.lst_iff.mp i1'
  obtain⟨zy,vy,rfl,b1,b2⟩:=Is.lst_iff.mp i2
  exact⟨zx,zy,rfl,rfl,vx,vy,a1,b1,a2,b2⟩
 have both:∃xs ys,dx = .lst xs/\dy = .lst ys:=by
  cases dx with
  | lst xs =>
    cases dy with
    | lst ys=>exact⟨xs,ys,rfl,rfl⟩
    | _=>exact absurd rfl hgx
  | _=>cases dy<;>exact absurd rfl hgx
 obtain⟨xs,ys,rfl,rfl⟩:=both
 obtain⟨zx,zy,rfl,rfl,vx,vy,a1,b1,a2,b2⟩:=key xs ys rfl rfl
 obtain⟨⟨hc,hn⟩,e3⟩:=R.guard_ne (show R.guard (xs.length+ys.length<=1000/\D.noLs (xs++ys)=true) (.ok (xs++ys)) ≠ .no from hgx)
 have hz:vx.length+vy.length<=sizeLine:=by rw[<-a2.length,<-b2.length];exact z3l hc
 refine wpAny_mono (x5u (X:=X.nox) pins s2 σ H2 (.ref zx) (.ref zy) _ _ (fun z H'=>∃l,z = .ref l/\H2 l=none/\H'=upd H2 l (.lst (vx++vy))) (I2.wish _) r1 r2 ⟨zx,zy,vx,vy,rfl,rfl,a1,b1,hz,fun l hl=>⟨l,rfl,hl,rfl⟩⟩) (fun u s' ⟨z,H',I',rz,l,ez,hl,eH⟩=>?_) fun _ _ z=>False.elim z
 subst ez eH
 have S3:=z1h hl (.lst (vx++vy))
 exact⟨xs++ys,l,vx++vy,_,(R.step e1 _).trans ((R.step e2 _).trans e3),I'.unwish,rz,(S1.trans S2).trans S3,S1.free (S2.free hl),z0l,IsAll.hid ((((fo.same S1).same S2).same S3).cons z0l) _ _ hn ((a2.append b2).same S3)⟩
end
section
variable {X:Cx}{e a b c:Expr}{g ga gb gc:G->R D}{lo:Option Expr}{gl:G->R (Option Int)}{pos p2 p3:Pos}
end
section
variable {X:Cx}
theorem x2k(hc:X.calm=true):z5i X (.builtin "max") (fun xs H Q=>∃(a:Addr) (ns:List Int),xs=[.ref a]/\ns≠[]/\SqL X.K H a (ns.map V.int)/\Q (.int (maxI ns)) H):=by
 intro pins s σ H xs us Q I r h
 obtain⟨a,ns,rfl,hne,hq,q⟩:=h
 obtain⟨u,rfl,ru⟩:=y0v r
 cases ru
 obtain⟨its,rv,pl,_⟩:=I.list hq
 have hi:IntsAre its ns:=y7n rv
 obtain⟨ys,hy⟩:=hi.allInts.items
 have hl:=pl.isList
 rw[hy] at hl
 have hn:numsOf its.toArray.toList=ns:=by rw[show its.toArray.toList=its from rfl,hi.numsOf]
 rw[hy,nums_intItems] at hn
 have hlen:ys.size=ns.length:=by rw[<-hn,List.length_map,Array.length_toList]
 have hpos:0<ys.size:=by rw[hlen];exact List.length_pos_iff.mpr hne
 refine max_intList (I.ok.hd hc) hl hpos fun v h' tk hv hk=>?_
 obtain⟨t,rfl⟩:=intItems_at hv
 obtain⟨h1,h2⟩:=argBest_gt (numAt ys) (ys.size-1)
 have em:numAt ys (argBest (fun i j=>decide (numAt ys i>numAt ys j)) (ys.size-1))=maxI ns:=by
  refine y2g ?_ fun b hb=>?_
  ·rw[<-hn,numAt_eq];exact getD_mem (by rw[List.length_map,Array.length_toList];lia)
  ·rw[<-hn] at hb
   obtain⟨j,hj,rfl⟩:=mem_getD hb
   rw[List.length_map,Array.length_toList] at hj
   rw[<-numAt_eq];exact h2 j (by lia)
 rw[em]
 exact⟨.int (maxI ns),H,I.kept hk,⟨t,rfl⟩,q⟩
theorem x6z(hc:X.calm=true):z7o X (.builtin "max") y7y:=by
 refine⟨_,z5i.or (x2k (X:=X.nox) hc) (x1d (X:=X.nox) hc),fun H xs ds i hg=>?_⟩
 unfold y7y at hg
 split at hg
 ·rename_i ys
  obtain⟨v,rfl,h⟩:=z4t i
  obtain⟨a,zs,rfl,h1,h2⟩:=Is.lst_iff.mp h
  cases q:ints? ys with
  | none=>rw[q] at hg;exact absurd rfl hg
  | some ns =>
    cases ns with
    | nil=>rw[q] at hg;exact absurd rfl hg
    | cons n ns =>
      have:=ints?_some q
      subst this
      rw[h2.ints_eq] at h1
      exact .inl ⟨a,n::ns,rfl,by simp,h1,_,by unfold y7y;simp only[q],.refl _,Is.int_iff.mpr rfl⟩
 ·rename_i i' j'
  obtain⟨v,v',rfl,h,h'⟩:=x4m i
  exact .inr ⟨i',j',by rw[Is.int_iff.mp h,Is.int_iff.mp h'],_,rfl,.refl _,Is.int_iff.mpr rfl⟩
 ·exact absurd rfl hg
end
section
variable {X:Cx}{e a b c:Expr}{g ga gb gc:G->R D}{lo:Option Expr}{st:Expr}{gl gt:G->R (Option Int)}{pos p2 p3:Pos}
end
theorem Is.isNon{K:PySem.W.Frag}{H:Hp}{d:D}{v:V}(h:Is K H d v):decide (v = .non)=d.isNon:=by
 cases d with
 | non=>rw[Is.non_iff.mp h];rfl
 | bl b=>rw[Is.bl_iff.mp h];rfl
 | int b=>rw[Is.int_iff.mp h];rfl
 | str b=>unfold Is at h;rw[h];rfl
 | tup ds=>obtain⟨a,xs,rfl,_⟩:=Is.tup_iff.mp h;rfl
 | lst ds=>obtain⟨a,xs,rfl,_⟩:=Is.lst_iff.mp h;rfl
 | dct=>unfold Is at h;obtain⟨a,ob,rfl,_⟩:=h;rfl
 | exc c=>unfold Is at h;obtain⟨a,ob,C,rfl,_⟩:=h;rfl
section
variable {X:Cx}{a b:Expr}{pos:Pos}
end
section
variable {X:Cx}{e a b c:Expr}{g ga gb gc:G->R D}{pos pos' p p2:Pos}{es:List Expr}{gs:G->R (List D)}
end
section
variable {X:Cx}{e a b c:Expr}{g ga gb gc:G->R D}{pos pos' p p2:Pos}{es:List Expr}{gs:G->R (List D)}
structure PADr (X:Cx) (es:List Expr) (g:G->R (List D)):Prop where
 run:∀(pos:Pos) (pins:List (Addr×Obj)) (s:Shared) (σ:St) (H:Hp) (F:List Addr) (Γ:G),Inv X pins σ H s->FOk H F->Rel X.K H F Γ σ->g Γ ≠ .no ->
  wpAny (model X.prog X.w) X.A (spliced (backTo pos (starEach es X.env))) (fun us s'=>∃ds vs H',g Γ = .ok ds/\Inv X pins σ H' s'/\Vals vs us/\Same H H'/\IsAll X.K (hid F H') ds vs) (z1a X pins σ H (g Γ)) s
theorem z1i:PADr X [] gNil:=⟨fun pos pins s σ H F Γ I fo rl hg=>Calls.spliced_nil ⟨[],[],H,rfl,I,.nil,.refl _,IsAll.nil⟩⟩
theorem z0p(ha:PDr X e g)(hr:PADr X es gs)(hs:starEach (e::es) X.env=(false,eval e X.env)::starEach es X.env:=by rfl):PADr X (e::es) (gCons g gs):=by
 refine⟨fun pos pins s σ H F Γ I fo rl hg=>?_⟩
 rw[hs]
 show wpAny _ _ (spliced ((false,eval e X.env)::backTo pos (starEach es X.env))) _ _ s
 refine Calls.spliced_cons (wpAny_mono (ha.run pins s σ H F Γ I fo rl (R.left hg)) (fun u s1 ⟨d,x,H1,e1,I1,r1,S1,i1⟩=>?_) fun _ _ x=>x.bind _)
 have hg1:=R.next hg e1
 refine wpAny_mono (hr.run pos pins s1 σ H1 F Γ I1 (fo.same S1) (rl.same S1) (R.left hg1)) (fun us s2 ⟨ds,vs,H2,e2,I2,r2,S2,i2⟩=>?_) fun _ _ x=>z1a.later e1 S1 (x.bind _)
 exact⟨d::ds,x::vs,H2,(R.step e1 _).trans (R.step e2 _),I2,.cons r1 r2,S1.trans S2,IsAll.cons (i1.same (z2b S2)) i2⟩
theorem x0l{H:Hp}{F:List Addr}{q:Addr}(fo:FOk H F)(h:H q=none):q ∉ F:=fun z=>by
 obtain⟨ys,e⟩:=fo q z
 rw[h] at e;cases e
theorem y9c{x1}(h:PADr X es gs):PDr X (.Tuple es x1 pos) (gTup gs):=by
 refine⟨fun pins s σ H F Γ I fo rl hg=>?_⟩
 refine wpAny_Tuple_spliced (wpAny_mono (h.run pos pins s σ H F Γ I fo rl (R.left hg)) (fun us s1 ⟨ds,vs,H1,e1,I1,r1,S1,i1⟩=>?_) fun _ _ x=>x.bind _)
 have hgx:=R.next hg e1
 obtain⟨hl,e2⟩:=R.guard_ne hgx
 have hz:vs.length<=sizeLine:=by rw[<-i1.length];exact z3l hl
 refine⟨by rw[<-r1.length];exact hz,?_⟩
 have hf:H1 s1.heap.objs.size=none:=I1.hok.fresh (Nat.le_refl _)
 have S2:=z1h hf (.tup vs)
 have hF:=x0l (fo.same S1) hf
 refine⟨.tup ds,.ref s1.heap.objs.size,upd H1 s1.heap.objs.size (.tup vs),(R.step e1 _).trans e2,I1.laid (t':=s1.toks) (fun b u e=>Heap.get?_push_of_some _ e) (Nat.le_refl _) ?_,rfl,S1.trans S2,Is.tup_iff.mpr ⟨_,vs,rfl,SqT.of (by rw[z0k hF];exact z0l),i1.same (z2b S2)⟩⟩
 exact⟨hz,us,r1,⟨_,Heap.get?_push_size _ rfl,rfl,_,rfl⟩⟩
theorem y4h(h:PADr X es gs):PF X (.List es pos) (y0a gs):=by
 refine⟨fun pins s σ H F Γ I fo rl hg=>?_⟩
 refine wpAny_List_spliced (wpAny_mono (h.run pos pins s σ H F Γ I fo rl (R.left hg)) (fun us s1 ⟨ds,vs,H1,e1,I1,r1,S1,i1⟩=>?_) fun _ _ x=>x.bind _)
 have hgx:=R.next hg e1
 obtain⟨hl,e2⟩:=R.guard_ne hgx
 have hz:vs.length<=sizeLine:=by rw[<-i1.length];exact z3l hl
 refine⟨by rw[<-r1.length];exact hz,?_⟩
 have hf:H1 s1.heap.objs.size=none:=I1.hok.fresh (Nat.le_refl _)
 have S2:=z1h hf (.lst vs)
 have hH:H s1.heap.objs.size=none:=S1.free hf
 refine⟨ds,s1.heap.objs.size,vs,upd H1 s1.heap.objs.size (.lst vs),(R.step e1 _).trans e2,I1.laid (t':=s1.toks) (fun b u e=>Heap.get?_push_of_some _ e) (Nat.le_refl _) ?_,rfl,S1.trans S2,hH,z0l,i1.same (y4u S2 hf)⟩
 exact⟨hz,us,0,r1,Heap.get?_push_size _ rfl⟩
end
structure CompOk2 (N:List Str) (env:Env) (x0 y:Str) (scope:Scope):Prop where
 kind:scope.kind = .function
 nocell:∀p∈scope.names,p.2 ≠ .cell
 names:∀p∈scope.names,p.2 = .local->scope.names.lookup p.1=some .local
 free:∀p∈scope.names,p.2 = .free->(∃c,env.cells.lookup p.1=some c)/\(env.scope.names.lookup p.1=some .cell∨env.scope.names.lookup p.1=some .free)
 loc:scope.names.lookup x0=some .local/\scope.names.lookup y=some .local/\x0≠y/\(x0 ∉ N∨y ∉ N)
 nil:scope.names.lookup (("":Str))=none
 only:∀z∈N,scope.names.lookup z=some .local->z=x0∨z=y
 none:(∀z∈N,z≠("":Str))∨(x0 ∉ N/\y ∉ N)
noncomputable def y5f(X:Cx)(x0 y:Str)(scope:Scope)(C:Addr)(s₂:Shared)(H₂:Hp)(fp:List Addr)(pn:List (Addr×Obj)):Cx :=
 { X with N:=x0::y::X.N.map (fun z=>if z=x0∨z=y then ("":Str) else z),s₀:=s₂,H₀:=H₂,env:=compEnvC scope (capt X.env scope.names []) C X.env,outer:=X.stack,ex:=fp,fn:=fun _=>false,pn:=pn,xe:=fun _ _=>False }
section
variable {X:Cx}{x0 y:Str}{scope:Scope}
structure PC2 (X:Cx) (x0 y:Str) (scope:Scope) (ifs:List Expr) (elt:Expr) (f:D->D->G->R (Option D)):Prop where
 run:∀(C:Addr) (s₂:Shared) (H₂:Hp) (fp:List Addr) (pn:List (Addr×Obj)) (pins:List (Addr×Obj)) (s:Shared) (σ:St) (H:Hp) (F:List Addr) (Γ:G) (d d2:D),Inv (y5f X x0 y scope C s₂ H₂ fp pn) pins σ H s->FOk H F->Rel X.K H F (.ro d :: .ro d2::Γ) σ->(∃o,f d d2 Γ = .ok o) ->
  wpAny (model X.prog X.w) X.A (forIn ifs true fun c r=>if r=true then do let ok <-isTrue c (compEnvC scope (capt X.env scope.names []) C X.env) (eval c (compEnvC scope (capt X.env scope.names []) C X.env));pure (ForInStep.yield ok) else pure (ForInStep.yield r)) (fun ok s₃ =>
   if ok=true then wpAny (model X.prog X.w) X.A (eval elt (compEnvC scope (capt X.env scope.names []) C X.env)) (fun u s₄=>∃e v H',f d d2 Γ = .ok (some e)/\Inv (y5f X x0 y scope C s₂ H₂ fp pn) pins σ H' s₄/\RelV v u/\Same H H'/\Is X.K (hid F H') e v) (fun _ _=>False) s₃
   else f d d2 Γ = .ok none/\∃H',Inv (y5f X x0 y scope C s₂ H₂ fp pn) pins σ H' s₃/\Same H H') (fun _ _=>False) s
end
section
variable {prog:Program}{w:World}{A:Around}{E:Value->Shared->Prop}{s:Shared}
noncomputable def SIt(b:Bool)(h:Heap)(it l:Addr)(i:Nat):Prop:=if b=true then h.IsListIter it l i else h.IsTupleIter it l i
noncomputable def SOb(b:Bool)(h:Heap)(l:Addr)(xs:Array Value):Prop:=if b=true then h.IsList l xs else h.IsTuple l xs
theorem SIt.mv{b:Bool}{h h':Heap}{it l:Addr}{i:Nat}(st:SIt b h it l i)(k:∀o,h.get? it=some o->h'.get? it=some o):SIt b h' it l i:=by
 cases b
 ·exact Heap.IsTupleIter.at (h:=h) st k
 ·exact Heap.IsListIter.at (h:=h) st k
theorem SOb.mv{b:Bool}{h h':Heap}{l:Addr}{xs:Array Value}(st:SOb b h l xs)(k:∀o,h.get? l=some o->h'.get? l=some o):SOb b h' l xs:=by
 cases b
 ·obtain⟨o,e,r⟩:=(show h.IsTuple l xs from st);exact⟨o,k o e,r⟩
 ·exact Heap.IsList.at (h:=h) st k
theorem SIt.obj{b:Bool}{h:Heap}{it l:Addr}{i:Nat}(st:SIt b h it l i):∃o vs,h.get? it=some o/\o.data = .fields vs:=by
 cases b
 ·obtain⟨o,e,c,d⟩:=(show h.IsTupleIter it l i from st);exact⟨o,_,e,d⟩
 ·obtain⟨o,e,c,d⟩:=(show h.IsListIter it l i from st);exact⟨o,_,e,d⟩
end
section
variable {prog:Program}{w:World}{A:Around}{E:Value->Shared->Prop}{s:Shared}{b1 b2:Bool}
end
section
variable {prog:Program}{w:World}{A:Around}{E:Value->Shared->Prop}{s:Shared}{b1 b2:Bool}
end
section
variable {X:Cx}{pins:List (Addr×Obj)}{σ:St}{H:Hp}{s:Shared}{h':Heap}
noncomputable def Sq(b:Bool)(K:PySem.W.Frag)(H:Hp)(l:Addr)(xs:List V):Prop:=if b=true then SqL K H l xs else SqT K H l xs
theorem Sq.same{b:Bool}{K:PySem.W.Frag}{H H':Hp}{l:Addr}{xs:List V}(h:Sq b K H l xs)(S:Same H H'):Sq b K H' l xs:=by
 cases b
 ·exact z2e S h
 ·exact S.seq h
end
section
variable {X:Cx}{a b:Expr}{ga gb:G->R D}
end
section
variable {X:Cx}{e a b c:Expr}{g ga gb gc:G->R D}{pos:Pos}
end
section
variable {X:Cx}{a b:Expr}{ga gb:G->R D}
end
section
variable {X:Cx}{e a b c:Expr}{g ga gb gc:G->R D}{pos pos' p:Pos}
theorem y3y(ha:PD X a ga)(he:∀whole,isTrue a X.env whole=(do let v <-whole;standAt a.pos;holding [v] (truthy v)):=by intro _;rfl):PTD X a (z8a ga):=by
 refine⟨fun pins s σ H F Γ I fo rl hg=>?_⟩
 refine isTrue_plain (wpAny_mono (ha.run pins s σ H F Γ I fo rl (R.left hg)) (fun v s1 ⟨d,x,H1,e1,I1,r1,S1,i1⟩=>?_) fun _ _ x=>x.bind _) (he _)
 have hg1:=R.next hg e1
 cases d with
 | lst ds =>
   obtain⟨l,xs,rfl,q1,j1⟩:=Is.lst_iff.mp i1
   cases (show v=Value.ref l from r1)
   obtain⟨its,rv,pl,hz⟩:=I1.list q1
   have n1:=rv.length
   have n2:=j1.length
   refine wpAny_truthy_list pl.isList (by rw[sizeLine_eq] at hz;simp;lia) ⟨H1,(R.step e1 _).trans ?_,I1.tok _,S1⟩
   have:its.toArray.isEmpty=ds.isEmpty:=by
    cases ds with
    | nil=>cases its with
      | nil=>rfl
      | cons z zs=>simp at n1 n2;lia
    | cons d ds=>cases its with
      | nil=>rw[<-n2] at n1;simp at n1
      | cons z zs=>rfl
   rw[this]
 | _=>exact absurd rfl hg1
end
section
variable {X:Cx}{e a b c:Expr}{g ga gb gc:G->R D}{pos pos' p:Pos}{gs:G->R (List D)}
end
noncomputable def x5w(y:Str)(names:List (Str×NameKind)):Bool:=decide (names.filter (fun p=>p.2 == .cell)=[(y,.cell)])
structure CompOkC (N:List Str) (env:Env) (y:Str) (scope:Scope):Prop where
 kind:scope.kind = .function
 nocell:∀p∈scope.names,p.2 ≠ .cell∨p.1=y
 names:∀p∈scope.names,p.2 = .local->scope.names.lookup p.1=some .local
 free:∀p∈scope.names,p.2 = .free->(∃c,env.cells.lookup p.1=some c)/\(env.scope.names.lookup p.1=some .cell∨env.scope.names.lookup p.1=some .free)
 loc:x5w y scope.names=true/\scope.names.lookup y=some .cell
 nil:scope.names.lookup (("":Str))=none
 only:∀z∈N,scope.names.lookup z≠some .local
 none:∀z∈N,z≠("":Str)
noncomputable def y5e(X:Cx)(y:Str)(scope:Scope)(C cc:Addr)(s₂:Shared)(H₂:Hp)(fp:List Addr)(pn:List (Addr×Obj)):Cx :=
 { X with N:=y::X.N.map (fun z=>if z=y then ("":Str) else z),s₀:=s₂,H₀:=H₂,env:=compEnvC scope ((y,cc)::capt X.env scope.names []) C X.env,outer:=X.stack,ex:=fp,fn:=fun z=>z==y,pn:=pn,xe:=fun _ _=>False }
section
variable {X:Cx}{y:Str}{scope:Scope}
structure PC1C (X:Cx) (y:Str) (scope:Scope) (ifs:List Expr) (elt:Expr) (f:D->G->R (Option D)):Prop where
 run:∀(C cc:Addr) (s₂:Shared) (H₂:Hp) (fp:List Addr) (pn:List (Addr×Obj)) (pins:List (Addr×Obj)) (s:Shared) (σ:St) (H:Hp) (F:List Addr) (Γ:G) (d:D),Inv (y5e X y scope C cc s₂ H₂ fp pn) pins σ H s->FOk H F->Rel X.K H F (.ro d::Γ) σ->(∃o,f d Γ = .ok o) ->
  wpAny (model X.prog X.w) X.A (forIn ifs true fun c r=>if r=true then do let ok <-isTrue c (compEnvC scope ((y,cc)::capt X.env scope.names []) C X.env) (eval c (compEnvC scope ((y,cc)::capt X.env scope.names []) C X.env));pure (ForInStep.yield ok) else pure (ForInStep.yield r)) (fun ok s₃ =>
   if ok=true then wpAny (model X.prog X.w) X.A (eval elt (compEnvC scope ((y,cc)::capt X.env scope.names []) C X.env)) (fun u s₄=>∃e v H',f d Γ = .ok (some e)/\Inv (y5e X y scope C cc s₂ H₂ fp pn) pins σ H' s₄/\RelV v u/\Same H H'/\Is X.K (hid F H') e v) (fun _ _=>False) s₃
   else f d Γ = .ok none/\∃H',Inv (y5e X y scope C cc s₂ H₂ fp pn) pins σ H' s₃/\Same H H') (fun _ _=>False) s
end
section
variable {X:Cx}{e:Expr}{pos p:Pos}{x:Str}{es:List Expr}{gs:G->R (List D)}
theorem x0g{P:Program}{w:World}{H:Hp}{h:Heap}{F:List Addr}(fo:FOk H F)(k:HOk P w H h):HOk P w (hid F H) h:=fun b u e=>by
 have out:∀{c:Addr} {o:HO},H c=some o->(∀xs,o ≠ .lst xs)->hid F H c=some o:=fun {c o} q n=>by
  rw[z0k fun z=>by obtain⟨xs,e⟩:=fo c z;rw[q] at e;cases e;exact n xs rfl];exact q
 exact(k b u (z1e e).2).stay (fun c v _ q=>q) (fun c q=>out q fun xs z=>nomatch z) fun c xs q=>out q fun xs z=>nomatch z
end
section
variable {M:Model}{A:Around}{E:Value->Shared->Prop}{env:Env}{s:Shared}
end
section
variable {X:Cx}{y:Str}{scope:Scope}
structure PC1X (X:Cx) (y:Str) (scope:Scope) (ifs:List Expr) (elt:Expr) (f:D->G->R (Option D)):Prop where
 run:∀(C:Addr) (s₂:Shared) (H₂:Hp) (fp:List Addr) (pn:List (Addr×Obj)),(∀b∈fp,∃o,(b,o)∈pn)->∀(pins:List (Addr×Obj)) (s:Shared) (σ:St) (H:Hp) (F:List Addr) (Γ:G) (d:D),Inv (z0q X y scope C s₂ H₂ fp pn) pins σ H s->FOk H F->Rel X.K H F (.ro d::Γ) σ->f d Γ ≠ .no ->
  wpAny (model X.prog X.w) X.A (forIn ifs true fun c r=>if r=true then do let ok <-isTrue c (compEnvC scope (capt X.env scope.names []) C X.env) (eval c (compEnvC scope (capt X.env scope.names []) C X.env));pure (ForInStep.yield ok) else pure (ForInStep.yield r)) (fun ok s₃ =>
   if ok=true then wpAny (model X.prog X.w) X.A (eval elt (compEnvC scope (capt X.env scope.names []) C X.env)) (fun u s₄=>∃e v H',f d Γ = .ok (some e)/\Inv (z0q X y scope C s₂ H₂ fp pn) pins σ H' s₄/\RelV v u/\Same H H'/\Is X.K (hid F H') e v) (fun x s'=>∃c H',f d Γ = .er c/\Same H H'/\y3s (z0q X y scope C s₂ H₂ fp pn) pins σ H' c x s') s₃
   else f d Γ = .ok none/\∃H',Inv (z0q X y scope C s₂ H₂ fp pn) pins σ H' s₃/\Same H H') (fun x s'=>∃c H',f d Γ = .er c/\Same H H'/\y3s (z0q X y scope C s₂ H₂ fp pn) pins σ H' c x s') s
end
section
variable {X:Cx}{e a b c:Expr}{g ga gb gc:G->R D}{pos p:Pos}{x:Str}{es:List Expr}{gs:G->R (List D)}
end
theorem IsAll.eraseIdx{K:PySem.W.Frag}{H:Hp}:∀{ds:List D} {xs:List V} (k:Nat),IsAll K H ds xs->IsAll K H (ds.eraseIdx k) (xs.eraseIdx k)
 | [],[],_,h=>h
 | [],_::_,_,h=>by have:=h.length;simp at this
 | _::_,[],_,h=>by have:=h.length;simp at this
 | d::ds,x::xs,0,h=>by
   obtain⟨_,_,e,_,h2⟩:=IsAll.cons_iff.mp h
   cases e;exact h2
 | d::ds,x::xs,k+1,h=>by
   obtain⟨_,_,e,h1,h2⟩:=IsAll.cons_iff.mp h
   cases e;exact IsAll.cons h1 (IsAll.eraseIdx k h2)
section
variable {X:Cx}{e:Expr}{g:G->R D}{pos p pos':Pos}
end
section
variable {X:Cx}{e a b c:Expr}{g ga gb gc:G->R D}{pos:Pos}
theorem y3r:∀bs:List Bool,((List.range bs.length).all fun i=>(bs[i]?).getD true)=bs.all (fun b=>b)
 | []=>rfl
 | b::bs=>by
   rw[List.length_cons,List.range_succ_eq_map,List.all_cons,List.all_map,List.all_cons,<-y3r bs]
   rfl
theorem x1i(hc:X.calm=true):z5i X (.builtin "all") (fun xs H Q=>∃(a:Addr) (bs:List Bool),xs=[.ref a]/\SqL X.K H a (bs.map V.bl)/\Q (.bl (bs.all (fun b=>b))) H):=by
 intro pins s σ H xs us Q I r h
 obtain⟨a,bs,rfl,hq,q⟩:=h
 obtain⟨u,rfl,ru⟩:=y0v r
 cases ru
 obtain⟨its,rv,pl,_⟩:=I.list hq
 have hl:=pl.isList
 have hlt:a<s.heap.objs.size:=by obtain⟨_,e,_⟩:=hl;exact Heap.lt_size e
 have hlen:its.length=bs.length:=by rw[<-rv.length,List.length_map]
 refine call_all_walk (wpAny_pyIter_list hl ?_)
 refine⟨s.heap.objs.size,[s.heap.objs.size,a],[s.heap.objs.size],its.toArray.size,_,_,fun i=>(bs[i]?).getD true,rfl,Walks.list (A:=X.A.in1) (I.ok.hd hc) _ a (Nat.ne_of_lt hlt) its.toArray,
  ⟨⟨_,Heap.get?_push_size _ rfl,rfl,rfl⟩,hl.push _⟩,fun i v s' Q' E' hP hQ=>?_,fun h' tk hk=>?_⟩
 ·obtain⟨b,e,rfl⟩:=z9w rv (i:=i) (v:=v) (by simpa using hP)
  simp only[e,Option.getD_some] at hQ
  exact wpAny_truthy_bool hQ
 ·have e:((List.range its.toArray.size).all fun i=>(bs[i]?).getD true)=bs.all (fun b=>b):=by
   rw[List.size_toArray,hlen];exact y3r bs
  refine⟨.bl (bs.all (fun b=>b)),H,I.kept (fun b x ex=>hk b x (fun hm=>by rw[List.mem_singleton.mp hm] at ex;exact Nat.lt_irrefl _ (Heap.lt_size ex)) (Heap.get?_push_of_some _ ex)),by rw[e];rfl,q⟩
theorem x1b(hc:X.calm=true):z7o X (.builtin "all") dAll:=by
 refine⟨_,x1i (X:=X.nox) hc,fun H xs ds i hg=>?_⟩
 unfold dAll at hg
 split at hg
 ·rename_i ys
  obtain⟨v,rfl,h⟩:=z4t i
  obtain⟨a,zs,rfl,h1,h2⟩:=Is.lst_iff.mp h
  cases q:bools? ys with
  | none=>rw[q] at hg;exact absurd rfl hg
  | some ns =>
    have:=bools?_some q
    subst this
    rw[h2.bools_eq] at h1
    exact⟨a,ns,rfl,h1,.bl (ns.all (fun b=>b)),by show dAll [.lst (ns.map D.bl)]=_;simp only[dAll,q],.refl _,Is.bl_iff.mpr rfl⟩
 ·exact absurd rfl hg
end
namespace Rv
theorem y4k:List.lookup (String.ofList ['d','e','s','r','e','v','e','r'].reverse) Manifest.owners=some Manifest.sig_reversed:=rfl
end Rv
section
variable {prog:Program}{w:World}{A:Around}{E:Value->Shared->Prop}{s:Shared}
end
theorem x3l:bootBuiltins ("reversed":Str)=some (.type "reversed"):=by decide +kernel
section
variable {X:Cx}{a:Expr}{ga:G->R D}
end
section
variable {X:Cx}{e:Expr}{pos p:Pos}{x:Str}{es:List Expr}{gs:G->R (List D)}
theorem x9c{k:Nat}{f:Addr}{fd:FuncData}{ps:List Str}{φ:List D->R D}(Fn:FnD X.prog X.w X.K X.mg X.base k f fd ps φ)(hr:Room k X.A){pins:List (Addr×Obj)}{σ:St}{H:Hp}{F:List Addr}{s:Shared}{us:List Value}{vs:List V}{ds:List D}{d':D}{EE:Value->Shared->Prop}
 (I:Inv X pins σ H s) (fo:FOk H F) (r:Vals vs us) (i:IsAll X.K (hid F H) ds vs) (hg:φ ds = .ok d'):wpAny (model X.prog X.w) X.A (call (.ref f) us) (fun u s'=>∃v H',Inv X pins σ H' s'/\RelV v u/\Same H H'/\Is X.K (hid F H') d' v) EE s:=by
 have hsp:spD X.K X.mg φ vs (hid F H) (fun v H'=>Same (hid F H) H'/\Is X.K H' d' v) (fun _ _ _=>False) :=
  ⟨ds,i,(by rw[hg];exact fun z=>nomatch z),fun d v H' e S iv=>by rw[hg] at e;cases e;exact⟨S,iv⟩,fun c C H' e=>by rw[hg] at e;cases e⟩
 have hl:us.length=ps.length:=by rw[<-r.length];exact Fn.ok.len _ _ _ _ hsp
 have hb:=Fn.binds s us I.kIn (by rw[List.append_nil];exact hl)
 rw[List.append_nil] at hb
 have nh:∀{b:Addr},H b=none->hid F H b=none:=fun {b} q=>by
  by_cases hb:b∈F
  ·exact z7u hb
  ·rw[z0k hb];exact q
 have e0:=I.env0
 have en:Env0 X.prog X.w X.K X.mg X.base X.A X.stack s (hid F H):=⟨e0.frames,e0.mod,fun b o q=>⟨(e0.bs b o q).1,nh (e0.bs b o q).2⟩,e0.bsz,e0.funs,fun b hb=>nh (e0.frf b hb),x0g fo e0.hok,e0.bare⟩
 refine wpAny_call (codeAny_mono (Fn.ok.run X.A X.stack s (hid F H) ⟨us,[]⟩ us vs _ _ hr en hb r hsp) fun r' s' hq=>?_)
 cases r' with
 | error u=>obtain⟨_,_,_,_,_,_,_,_,_,_,_,_,_,_,_,_,_,_,_,_,_,_,_,_,_,_,hE⟩:=hq;exact hE.elim
 | ok fl =>
   cases fl with
   | ret u =>
     obtain⟨v,H1,os,bare,un,hok,rv,S,h3⟩:=hq
     have own:∀b,b∈F->∃ys its n,H b=some (.lst ys)/\ys.length<=sizeLine/\Vals ys its/\s'.heap.get? b=some { cls:=.type "list",data:=.seq its.toArray n }/\H1 b=none:=fun b hb=>by
      obtain⟨ys,ey⟩:=fo b hb
      obtain⟨z,its,n,rv',gt⟩:=I.hok b _ ey
      exact⟨ys,its,n,ey,z,rv',un.keep b _ gt (z7u hb) (fun z=>by rw[e0.frf b z] at ey;cases ey) (by simp),un.free b _ gt (z7u hb) (by simp)⟩
     let H2:Hp:=fun b=>if b∈F then H b else H1 b
     have in2:∀{b},b∈F->H2 b=H b:=fun {b} h=>if_pos h
     have out2:∀{b},b ∉ F->H2 b=H1 b:=fun {b} h=>if_neg h
     have up:∀{b o},H1 b=some o->b ∉ F/\H2 b=some o:=fun {b o} q=>by
      have hb:b ∉ F:=fun z=>by obtain⟨_,_,_,_,_,_,_,z2⟩:=own b z;rw[q] at z2;cases z2
      exact⟨hb,(out2 hb).trans q⟩
     have notl:∀{b o},H b=some o->(∀ys,o ≠ .lst ys)->b ∉ F:=fun {b o} q n z=>by obtain⟨ys,e⟩:=fo b z;rw[q] at e;cases e;exact n ys rfl
     have un2:Un (frs X.stack) [] H H2 s.heap s'.heap:=by
      refine⟨fun b o q n=>un.keep b o q (nh n),fun b o q n=>un.slot b o q (nh n),fun b o q n hx=>?_,un.there,fun b ys q=>?_,fun b o u q=>?_,fun b ps q=>?_⟩
      ·have hb:b ∉ F:=fun z=>by obtain⟨ys,e⟩:=fo b z;rw[n] at e;cases e
       rw[out2 hb];exact un.free b o q (nh n) hx
      ·have hb:=notl q fun ys z=>nomatch z
       rw[out2 hb];exact un.tups b ys (by rw[z0k hb];exact q)
      ·have hb:=notl q fun ys z=>nomatch z
       rw[out2 hb];exact un.frzs b o u (by rw[z0k hb];exact q)
      ·have hb:=notl q fun ys z=>nomatch z
       rw[out2 hb];exact un.tbls b ps (by rw[z0k hb];exact q)
     have hok2:HOk X.prog X.w H2 s'.heap:=fun b u q=>by
      by_cases hb:b∈F
      ·obtain⟨ys,its,n,ey,z,rv',gt,_⟩:=own b hb
       rw[in2 hb,ey] at q
       cases q
       exact⟨z,its,n,rv',gt⟩
      ·rw[out2 hb] at q
       exact(hok b u q).stay (fun c v _ e=>e) (fun c e=>(up e).2) fun c ys e=>(up e).2
     have I2:Inv X pins σ H2 s':=I.call' os un2 hok2 bare (fun b z=>absurd z (by simp))
     have S2:Same H H2:=fun b o q=>by
      by_cases hb:b∈F
      ·rw[in2 hb];exact q
      ·rw[out2 hb];exact S b o (by rw[z0k hb];exact q)
     have Sx:Same H1 (hid F H2):=fun b o q=>by rw[z0k (up q).1];exact(up q).2
     exact⟨v,H2,I2,rv,S2,h3.same Sx⟩
   | next=>exact False.elim hq
   | brk=>exact False.elim hq
   | cont=>exact False.elim hq
end
section
variable {X:Cx}{e:Expr}{g:G->R D}{pos pt:Pos}
end
section
variable {prog:Program}{w:World}{A:Around}{E:Value->Shared->Prop}{s:Shared}
end
section
variable {X:Cx}{a:Expr}{ga:G->R D}{st:Expr}{gt:G->R (Option Int)}{pos p2:Pos}
end
section
variable {X:Cx}{e a b c:Expr}{g ga gb gc:G->R D}{pos:Pos}
end
theorem vals_ints:∀{ns:List Int} {us:List Value},IntsAre us ns->Vals (ns.map V.int) us
 | _,_,.nil=>.nil
 | _,_,.cons n t h=>.cons ⟨t,rfl⟩ (vals_ints h)
section
variable {X:Cx}{e a b c:Expr}{g ga gb gc:G->R D}{pos:Pos}
end
theorem y4o{M:Model}{A:Around}{E:Value->Shared->Prop}{s:Shared}{x c:Value}{Q:Value->Shared->Prop}(h:wpAny M A (compareOp .In x c) (fun v s'=>∃b,v = .bool b/\Q (.bool (!b)) s') E s):wpAny M A (compareOp .NotIn x c) Q E s:=by
 intro Γ p hΓ
 have h1:=h Γ p hΓ
 have e1:compareOp .In x c=(contains c x>>=fun b=>pure (.bool b)):=rfl
 have e2:compareOp .NotIn x c=(contains c x>>=fun b=>pure (.bool (!b))):=rfl
 rw[e1,Sem.wp_bind'] at h1
 rw[e2,Sem.wp_bind']
 refine Sem.wp_mono M Γ _ (fun b p' s' hb=>?_) (fun _ _ _ z=>z) p s h1
 rw[Sem.wp_pure'] at hb ⊢
 obtain⟨b',eb,hq⟩:=hb
 cases eb
 exact hq
theorem y6o(d:D):∀ys:List D,((D.pys ys).any fun y=>y.eqv d.py)=ys.any fun y=>eqD y d
 | []=>by simp[D.pys]
 | y::ys=>by rw[D.pys,List.any_cons,List.any_cons,y6o d ys,y6j]
section
variable {X:Cx}
end
section
variable {prog:Program}{w:World}{A:Around}{E:Value->Shared->Prop}{s:Shared}
end
section
variable {X:Cx}{a b:Expr}{ga gb:G->R D}
end
section
variable {X:Cx}{e a b c:Expr}{g ga gb gc:G->R D}{gs:G->R (List D)}{pos pos' p:Pos}
theorem y8t(i:Nat){x:Str}{apos cpos:Pos}(he:PF X e gs)(hN:X.N[i]? = some x:=by rfl)(hv:Vis X.env.scope x:=by first | exact Or.inl rfl | exact Or.inr (Or.inl rfl) | exact Or.inr (Or.inr rfl))(hd:(x==("__debug__":Str))=false:=by decide)(hcd:(x==("__classdict__":Str))=false:=by decide)
 (hsw:swapsWith (.Call (.Attribute (.Name x p) "extend" apos) [e] [] cpos) none pos.line X.env=pure false:=by rfl)
 (hbase:attributeBase (.Name x p) "extend" X.env (eval (.Name x p) X.env)=eval (.Name x p) X.env:=by rfl)
 (hfew:((backTo cpos (starEach [e] X.env)).all (fun x=>!x.1)&&(backToKw cpos (keywordEach [] X.env)).all (fun x=>x.1.isSome)
   && decide ([e].length+([]:List Keyword).length+(if ([]:List Keyword).isEmpty then 0 else 1)<30))=true:=by rfl)
 (hline:(apos.endLine==cpos.line)=true:=by rfl) (hs:starEach [e] X.env=(false,eval e X.env)::starEach [] X.env:=by rfl) :
 PQ X (.Expr (.Call (.Attribute (.Name x p) "extend" apos) [e] [] cpos) pos) (gExt i gs):=by
 refine⟨fun pins s σ H F Γ I fo rl hg=>?_⟩
 refine wpAny_Expr_any ?_ I.quiet hsw
 have hown:∃ds,Γ[i]? = some (.own ds):=by
  unfold gExt at hg
  split at hg
  ·rename_i ds e1;exact⟨ds,e1⟩
  ·exact absurd rfl hg
 obtain⟨ds,eo⟩:=hown
 have egA:gExt i gs Γ=lift (gs Γ) Γ fun es=>R.guard (ds.length+es.length<=100000) (.ok (.nx (Γ.set i (.own (ds++es))))):=by unfold gExt;rw[eo]
 rw[egA] at hg ⊢
 obtain⟨a',xs,h1,hF,h3,h4⟩:=rl.own i ds eo
 refine wpAny_Call_method_late hbase hfew hline rfl (wpAny_mono (z7r (X:=X.nox) hN hv hd hcd pins s σ H (fun v' H'=>v' = .ref a'/\H'=H) (I.wish _) ⟨.ref a',h1,rfl,rfl⟩) (fun v s1 ⟨v',H',I1,r1,e1,e2⟩=>?_) fun _ _ z=>False.elim z)
 subst e1 e2
 have I1':=I1.unwish
 obtain⟨t1,t2⟩:=y5j (T:="list") I1' r1 (.inl ⟨rfl,xs,SqL.of h3⟩)
 refine⟨"list",_,PySem.F.plainAttrs_list,PySem.F.slot_list_extend,PySem.F.type_list_extend,t1,t2,?_⟩
 rw[hs]
 refine Calls.callWith_builtin rfl (Calls.evalArgs_plain ?_)
 show wpAny _ _ (spliced ((false,eval e X.env)::backTo cpos [])) _ _ s1
 refine Calls.spliced_cons (wpAny_mono (he.run pins s1 σ H' F Γ I1' fo rl (z1p hg)) (fun u s2 hq=>Calls.spliced_nil ?_) fun _ _ x=>x.lift fo rl _)
 obtain⟨es,l,zs,H2,e3,I2,r2,S2,hfree,hl2,ia⟩:=hq
 have hgx:=y2j hg e3
 obtain⟨hl,e4⟩:=R.guard_ne hgx
 have hx2:=S2 _ _ h3
 have hsl:(100001:Nat)<=sizeLine:=by rw[sizeLine_eq];decide
 have hxl:=h4.length
 have hzl:=ia.length
 refine wpAny_mono (y9u (X:=X.nox) pins s2 σ H2 (.ref a') [.ref l] v [u] (fun z H''=>z = .non/\H''=upd H2 a' (.lst (xs++zs))) (I2.wish _) r1 (.cons r2 .nil) ⟨a',l,xs,zs,rfl,rfl,hx2,hl2,by lia,rfl,rfl⟩) (fun w' s3 ⟨z,H'',I3,rz,ez,eH⟩=>?_) fun _ _ z=>False.elim z
 subst ez eH
 have ne:l≠a':=fun z=>by rw[z,h3] at hfree;cases hfree
 have ia':IsAll X.K (hid F H2) es zs:=ia.same fun b o hb=>by
  obtain⟨z1,z2⟩:=z1e hb
  rw[z0k fun z=>z1 (List.mem_cons_of_mem _ z)]
  exact z2
 obtain⟨rl',hF'⟩:=(rl.same S2).put eo h1 (xs':=xs++zs) (ds':=ds++es) ((h4.same (z2b S2)).append ia')
 refine⟨_,(z2x e3).trans e4,σ,_,F,I3.unwish,fun b hb=>?_,rl',⟨fun b o hb h=>?_,fun b hb=>.inl hb⟩⟩
 ·by_cases hba:b=a'
  ·exact⟨xs++zs,by rw[hba];exact z0l⟩
  ·obtain⟨ys,q⟩:=fo b hb
   exact⟨ys,by rw[z0s hba];exact S2 _ _ q⟩
 ·rw[z0s (fun z=>hb (by rw[z];exact hF))];exact S2 _ _ h
end
noncomputable def At(xs:Array Nat)(j i:Nat):Prop:=i<=xs.size/\(∀(k v:Nat),k<i->xs[k]? = some v->v<j)/\(∀(k v:Nat),i<=k->xs[k]? = some v->j<=v)
theorem y1q{xs:Array Nat}{j:Nat}(hup:xs.toList.Pairwise (·<·)):∀(fuel lo hi:Nat),hi-lo<=fuel->lo<=hi->hi<=xs.size->(∀(k v:Nat),k<lo->xs[k]? = some v->v<j)->(∀(k v:Nat),hi<=k->xs[k]? = some v->j<=v) ->
 At xs j (SetTable.below.go xs j fuel lo hi)
 | 0,lo,hi,h1,h2,h3,h4,h5=>by
   have e:lo=hi:=by lia
   subst e
   exact⟨h3,h4,h5⟩
 | fuel+1,lo,hi,h1,h2,h3,h4,h5=>by
   rw[show SetTable.below.go xs j (fuel+1) lo hi=(if lo<hi then (if xs.getD ((lo+hi)/2) j<j then SetTable.below.go xs j fuel ((lo+hi)/2+1) hi else SetTable.below.go xs j fuel lo ((lo+hi)/2)) else lo) from rfl]
   by_cases q:lo<hi
   ·rw[if_pos q]
    have hm:(lo+hi)/2<xs.size:=by lia
    have hg:xs.getD ((lo+hi)/2) j=xs[(lo+hi)/2]:=by simp[Array.getD,hm]
    have mono:∀(a b va vb:Nat),a<=b->xs[a]? = some va->xs[b]? = some vb->va<=vb:=fun a b va vb hab ea eb=>by
     rcases Nat.lt_or_ge a b with w | w
     ·obtain⟨ha,ea'⟩:=Array.getElem?_eq_some_iff.mp ea
      obtain⟨hb,eb'⟩:=Array.getElem?_eq_some_iff.mp eb
      have:=List.pairwise_iff_getElem.mp hup a b (by simpa using ha) (by simpa using hb) w
      rw[Array.getElem_toList,Array.getElem_toList,ea',eb'] at this
      lia
     ·have:a=b:=by lia
      rw[this,eb] at ea;cases ea;exact Nat.le_refl _
    have em:xs[(lo+hi)/2]? = some xs[(lo+hi)/2]:=Array.getElem?_eq_getElem hm
    by_cases z:xs.getD ((lo+hi)/2) j<j
    ·rw[if_pos z]
     rw[hg] at z
     exact y1q hup fuel _ hi (by lia) (by lia) h3 (fun k v hk e=>Nat.lt_of_le_of_lt (mono k _ v _ (by lia) e em) z) h5
    ·rw[if_neg z]
     rw[hg] at z
     exact y1q hup fuel lo _ (by lia) (by lia) (by lia) h4 (fun k v hk e=>Nat.le_trans (by lia) (mono _ k _ v hk em e))
   ·rw[if_neg q]
    have e:lo=hi:=by lia
    subst e
    exact⟨h3,h4,h5⟩
theorem y6m{xs:Array Nat}(hup:xs.toList.Pairwise (·<·))(j:Nat):At xs j (SetTable.below xs j) :=
 y1q hup xs.size 0 xs.size (by lia) (Nat.zero_le _) (Nat.le_refl _) (fun k v hk=>absurd hk (Nat.not_lt_zero _)) fun k v hk e=>by
  obtain⟨h,_⟩:=Array.getElem?_eq_some_iff.mp e
  lia
theorem y2r{xs:Array Nat}{j:Nat}(hup:xs.toList.Pairwise (·<·))(hj:xs[SetTable.below xs j]? ≠ some j):(SetTable.insertAt xs (SetTable.below xs j) j).toList.Pairwise (·<·):=by
 obtain⟨b1,b2,b3⟩:=y6m hup j
 generalize SetTable.below xs j=i at *
 rw[SetTable.toList_insertAt]
 have ht:xs.toList=xs.toList.take i++xs.toList.drop i:=(List.take_append_drop i _).symm
 have hp:=hup
 rw[ht] at hp
 obtain⟨p1,p2,p3⟩:=List.pairwise_append.mp hp
 have lt1:∀v∈xs.toList.take i,v<j:=fun v hv=>by
  obtain⟨k,hk,e⟩:=List.mem_take_iff_getElem.mp hv
  refine b2 k v (by lia) ?_
  have hk2:k<xs.size:=by have:=hk;simp at this;lia
  rw[Array.getElem?_eq_getElem hk2,<-e,Array.getElem_toList]
 have gt1:∀v∈xs.toList.drop i,j<v:=fun v hv=>by
  obtain⟨k,hk,e⟩:=List.mem_drop_iff_getElem.mp hv
  have hk2:i+k<xs.size:=by simp at hk;lia
  have ek:xs[i+k]? = some v:=by rw[Array.getElem?_eq_getElem hk2,<-e,Array.getElem_toList]
  have h1:=b3 (i+k) v (by lia) ek
  by_cases z:j=v
  ·exfalso
   subst z
   cases k with
   | zero=>exact hj ek
   | succ k =>
     have hi2:i<xs.size:=by lia
     have h2:=b3 i xs[i] (Nat.le_refl _) (Array.getElem?_eq_getElem hi2)
     have h3:=List.pairwise_iff_getElem.mp hup i (i+(k+1)) (by simpa using hi2) (by simpa using hk2) (by lia)
     rw[Array.getElem_toList,Array.getElem_toList] at h3
     have h4:xs[i+(k+1)]=j:=by rw[Array.getElem?_eq_getElem hk2] at ek;exact Option.some.inj ek
     lia
  ·lia
 refine List.pairwise_append.mpr ⟨p1,List.pairwise_cons.mpr ⟨gt1,p2⟩,fun x hx y hy=>?_⟩
 rcases List.mem_cons.mp hy with e | e
 ·rw[e];exact lt1 x hx
 ·exact Nat.lt_trans (lt1 x hx) (gt1 y e)
structure TabK (led:Bool) (t:SetTable):Prop where
 led:t.led=led
 dum:t.dummies=#[]
 up:t.plain=true->t.place.toList.Pairwise (·<·)
theorem TabK.standQ{led:Bool}{t:SetTable}(h:TabK led t)(n:Nat):TabK led (t.standIn n):=⟨h.led,rfl,fun z=>by cases z⟩
theorem TabK.orStandQ{led:Bool}{t:SetTable}(h:TabK led t)(n:Nat):TabK led (t.orStandIn n):=by
 unfold SetTable.orStandIn
 split
 ·exact h
 ·exact h.standQ n
theorem y5v{t:SetTable}(h:t.dummies=#[])(j:Nat):SetTable.has t.dummies j=false:=by rw[h];rfl
theorem z8q{t:SetTable}(h:t.dummies=#[]){f:Nat->Int}{x:Int}:∀(fuel:Nat) (q:SetTable.Probe) {j:Nat} {d:Option Nat},q.dummy=none->SetTable.probe.go t f x fuel q=some (.empty j d)->d=none/\t.slot j = .empty
 | 0,q,j,d,_,e=>by cases e
 | fuel+1,q,j,d,hq,e=>by
   unfold SetTable.probe.go at e
   cases hs:t.slot q.j with
   | empty =>
     rw[hs] at e
     simp only[Option.some.injEq,SetTable.Met.empty.injEq] at e
     obtain⟨rfl,rfl⟩:=e
     exact⟨hq,hs⟩
   | dummy =>
     exfalso
     unfold SetTable.slot at hs
     rw[y5v h] at hs
     dsimp only at hs
     split at hs
     ·cases hs
     ·simp at hs
   | live i =>
     rw[hs] at e
     dsimp only at e
     split at e
     ·cases e
     ·refine z8q h fuel _ ?_ e
      unfold SetTable.advance
      split<;>exact hq
theorem TabK.putQ{led:Bool}{t:SetTable}{x:Int}{j:Nat}{d:Bool}(h:TabK led t)(e:t.freeSlot x=some (j,d)):TabK led (t.put j).1:=by
 unfold SetTable.freeSlot at e
 cases hq:t.probe (fun _=>x+1) x (t.probeStart x) with
 | none=>rw[hq] at e;cases e
 | some m =>
   rw[hq] at e
   cases m with
   | candidate _ _ _=>cases e
   | empty j' d' =>
     obtain⟨rfl,hs⟩:=z8q h.dum _ _ rfl hq
     simp only[Option.getD_none,Option.some.injEq,Prod.mk.injEq] at e
     obtain⟨rfl,_⟩:=e
     have hn:t.place[SetTable.below t.place j']? ≠ some j':=fun z=>by
      unfold SetTable.slot at hs
      dsimp only at hs
      rw[z] at hs
      simp at hs
     refine⟨h.led,?_,fun z=>y2r (h.up z) hn⟩
     show(if SetTable.has t.dummies j' then _ else t.dummies)=#[]
     rw[y5v h.dum,h.dum];rfl
theorem TabK.layQ{led:Bool}{t:SetTable}(h:TabK led t)(es:Array (Int×Value))(x:Int)(v:Value):TabK led (layNew t es x v).2.1:=by
 unfold layNew
 cases hq:t.freeSlot x with
 | none=>exact h.standQ _
 | some p =>
   obtain⟨j,d⟩:=p
   exact(h.putQ hq).orStandQ _
theorem x6i{mask finger moves:Nat}{led plain:Bool}{hs:Array Int}{t:SetTable}{o:Array Nat}(e:SetTable.laid mask finger moves led plain hs=some (t,o)):TabK led t:=by
 unfold SetTable.laid at e
 cases hq:SetTable.layClean mask hs with
 | none=>rw[hq] at e;cases e
 | some y4k =>
   rw[hq] at e
   simp only[Option.bind_eq_bind,Option.bind_some,Option.pure_def,Option.some.injEq,Prod.mk.injEq] at e
   obtain⟨rfl,_⟩:=e
   refine⟨rfl,rfl,fun _=>?_⟩
   show(List.map (·.1) ((List.range (mask+1)).filterMap fun j=>(y4k.getD j none).map (j,·))).Pairwise (·<·)
   rw[List.pairwise_map]
   refine List.pairwise_filterMap.mpr (List.pairwise_lt_range.imp fun {a b} hab x hx y hy=>?_)
   cases ha:y4k.getD a none with
   | none=>rw[ha] at hx;cases hx
   | some u =>
     cases hb:y4k.getD b none with
     | none=>rw[hb] at hy;cases hy
     | some w =>
       rw[ha] at hx;rw[hb] at hy
       cases hx;cases hy
       exact hab
theorem TabK.relayQ{led:Bool}{t:SetTable}(h:TabK led t)(es:Array (Int×Value))(n:Nat):TabK led (relayAll t es n).2.1:=by
 unfold relayAll
 cases hq:t.relaid (es.map (·.1)) n with
 | none=>exact h.standQ _
 | some p =>
   obtain⟨t',o⟩:=p
   dsimp only
   split
   ·unfold SetTable.relaid at hq
    have:=x6i hq
    rw[h.led] at this
    exact this
   ·exact h.standQ _
theorem TabK.offQ{led:Bool}{t:SetTable}(h:TabK led t):TabK led { t with plain:=false }:=⟨h.led,h.dum,fun z=>by cases z⟩
section
variable {prog:Program}{w:World}{A:Around}{E:Value->Shared->Prop}{s:Shared}
noncomputable def SetK(prog:Program)(w:World)(led:Bool)(h:Heap)(a:Addr)(S:Int->Bool)(n:Nat):Prop :=
 ∃(o:Obj) (es:Array (Int×Value)) (ep:Nat) (t:SetTable),(h.get? a=some o/\o.ExactSet/\o.data = .set es ep t)/\(ElemsOf (intKind prog w) es.toList/\∀k,S k=true↔∃e∈es.toList,(intKind prog w).is k e.2=true)/\(es.size<scanBound/\t.fits es.size=true/\es.size=n)/\TabK led t
theorem SetK.atQ{led:Bool}{h h':Heap}{a:Addr}{S:Int->Bool}{n:Nat}(x:SetK prog w led h a S n)(e:∀o,h.get? a=some o->h'.get? a=some o):SetK prog w led h' a S n:=by
 obtain⟨o,es,ep,t,⟨q1,q2,q3⟩,rest⟩:=x
 exact⟨o,es,ep,t,⟨e o q1,q2,q3⟩,rest⟩
theorem SetK.likeQ{led:Bool}{h:Heap}{a:Addr}{S S':Int->Bool}{n n':Nat}(x:SetK prog w led h a S n)(e:∀k,S k=S' k)(en:n=n'):SetK prog w led h a S' n':=by
 have:S=S':=funext e
 subst this en
 exact x
end
section
variable {prog:Program}{w:World}{A:Around}{E:Value->Shared->Prop}{s:Shared}
noncomputable def z6e(w:World):Bool:=!(w.params.followText "set-order")
theorem newK(v:Value){Q1:Value->Shared->Prop}(q:Q1 (.ref s.heap.objs.size) { s with heap:=s.heap.push { cls:=.type "set",dict:=none,data:=.set #[] 0 (.fresh 0 0 (z6e w)) } }) :
 codeAny (model prog w) A (.call (.builtin "set.__new__") ⟨[.type "set",v],[]⟩) (wants Q1 E) s:=by
 refine codeAny_of_tree (show wpAny _ A.in1 (do checkBuiltinCall "set.__new__" ⟨[.type "set",v],[]⟩;again (.builtin "set.__new__" ⟨[.type "set",v],[]⟩)) _ _ s from ?_)
 refine wpAny_bind (wpAny_of_eq (F.newCall_set_1 v) (wpAny_pure ⟨plainId_quiet F.plain_set_new _,codeAny_builtin F.entry_set_new ?_⟩))
 rw[Around.under_plainId F.plain_set_new _];unfold Builtin.«set.__new__» Builtin.Frozenset.newClass
 have hsub:=sub_set_self
 obtain⟨hp,g,d,tk,os⟩:=s
 dsimp only
 wp_walk
 refine wpAny_askSetting (wpAny_pure ?_)
 dsimp only
 simp only[newObj]
 exact wpAny_bind (wpAny_alloc (wpAny_pure (wpAny_pure q)))
end
section
variable {prog:Program}{w:World}{A:Around}{E:Value->Shared->Prop}{s:Shared}
end
noncomputable def x7f(h:Heap)(it a:Addr)(f:Value)(i n ep:Nat):Prop:=∃o,h.get? it=some o/\o.cls = .type "set_iterator"/\o.data = .fields #[f,.int i 0,.ref a,.int n 0,.int ep 0]
theorem x7f.atQ{h h':Heap}{it a:Addr}{f:Value}{i n ep:Nat}(x:x7f h it a f i n ep)(e:∀o,h.get? it=some o->h'.get? it=some o):x7f h' it a f i n ep:=let ⟨o,ho,r⟩:=x;⟨o,e _ ho,r⟩
noncomputable def SObj(h:Heap)(a:Addr)(es:Array (Int×Value))(ep:Nat)(t:SetTable):Prop:=∃o,h.get? a=some o/\o.ExactSet/\o.data = .set es ep t/\t.fits es.size=true
theorem SObj.atQ{h h':Heap}{a:Addr}{es:Array (Int×Value)}{ep:Nat}{t:SetTable}(x:SObj h a es ep t)(e:∀o,h.get? a=some o->h'.get? a=some o):SObj h' a es ep t:=let ⟨o,ho,r⟩:=x;⟨o,e _ ho,r⟩
section
variable {prog:Program}{w:World}{A:Around}{E:Value->Shared->Prop}{s:Shared}
end
section
variable {prog:Program}{w:World}{A:Around}{E:Value->Shared->Prop}{s:Shared}
end
section
variable {prog:Program}{w:World}{A:Around}{E:Value->Shared->Prop}{s:Shared}
noncomputable def x7e(h:Heap)(T:Addr)(ps:List Nat):Prop:=∃o k,h.get? T=some o/\o.data = .seq (ps.map fun(p:Nat)=>rawInt (p:Int)).toArray k
theorem x7e.atQ{h h':Heap}{T:Addr}{ps:List Nat}(x:x7e h T ps)(e:∀o,h.get? T=some o->h'.get? T=some o):x7e h' T ps:=let ⟨o,k,ho,r⟩:=x;⟨o,k,e _ ho,r⟩
end
section
variable {prog:Program}{w:World}{A:Around}{E:Value->Shared->Prop}{s:Shared}
end
section
variable {prog:Program}{w:World}{A:Around}{E:Value->Shared->Prop}{s:Shared}
end
theorem x3k:bootBuiltins ("set":Str)=some (.type "set"):=by decide +kernel
section
variable {X:Cx}{e a b c:Expr}{g ga gb gc:G->R D}{gs:G->R (List D)}{pos pos' p p2:Pos}
end
section
variable {X:Cx}
theorem x9s(hu:X.A.units+64<cLine):OpD X (compareOp .In) dIn:=by
 refine⟨fun x y H Q=>∃dx ys,(Is X.K H (.lst ys) y/\D.lay 40 (.lst ys)=true∨Is X.K H (.tup ys) y/\D.lay 40 (.tup ys)=true)/\Is X.K H dx x/\D.lay 40 dx=true/\Q (.bl (ys.any fun y=>eqD y dx)) H,?_,fun H x y dx dy ix iy hg=>?_⟩
 ·intro pins s σ H x y v u Q I rx ry h
  obtain⟨dx,ys,hy,ix,l1,q⟩:=h
  obtain⟨as,ra⟩:=z2z I 40 dx x v l1 ix rx
  have p1:=z5v 40 dx l1
  have hu':X.A.units+64<cLine:=hu
  rcases hy with ⟨iy,l2⟩ | ⟨iy,l2⟩
  ·obtain⟨bs,rb⟩:=z2z I 40 (.lst ys) y u l2 iy ry
   have p2:=z5v 40 (.lst ys) l2
   have ey:D.py (.lst ys) = .list (D.pys ys):=by simp[D.py]
   rw[ey] at rb p2
   have c2:PyData.canLayAll0 (D.pys ys)=true:=by simpa [PyData.canLay0] using p2.1
   refine PySem.SeqAt.in_list_reads rb ra c2 p1.1 (show X.A.units+1+min (PyData.depthAll (D.pys ys)) dx.py.depth<cLine by lia) ⟨.bl (ys.any fun y=>eqD y dx),H,I,?_,q⟩
   rw[y6o];rfl
  ·obtain⟨bs,rb⟩:=z2z I 40 (.tup ys) y u l2 iy ry
   have p2:=z5v 40 (.tup ys) l2
   have ey:D.py (.tup ys) = .tuple (D.pys ys):=by simp[D.py]
   rw[ey] at rb p2
   have c2:PyData.canLayAll0 (D.pys ys)=true:=by simpa [PyData.canLay0] using p2.1
   refine PySem.SeqAt.in_tuple_reads rb ra c2 p1.1 (show X.A.units+1+min (PyData.depthAll (D.pys ys)) dx.py.depth<cLine by lia) ⟨.bl (ys.any fun y=>eqD y dx),H,I,?_,q⟩
   rw[y6o];rfl
 ·cases dy with
  | lst ys =>
    obtain⟨⟨l1,l2⟩,e⟩:=R.guard_ne (show R.guard (D.lay 40 dx=true/\D.lay 40 (.lst ys)=true) (R.ok (D.bl (ys.any fun y=>eqD y dx))) ≠ .no from hg)
    exact⟨dx,ys,.inl ⟨iy,l2⟩,ix,l1,.bl (ys.any fun y=>eqD y dx),e,.refl _,Is.bl_iff.mpr rfl⟩
  | tup ys =>
    obtain⟨⟨l1,l2⟩,e⟩:=R.guard_ne (show R.guard (D.lay 40 dx=true/\D.lay 40 (.tup ys)=true) (R.ok (D.bl (ys.any fun y=>eqD y dx))) ≠ .no from hg)
    exact⟨dx,ys,.inr ⟨iy,l2⟩,ix,l1,.bl (ys.any fun y=>eqD y dx),e,.refl _,Is.bl_iff.mpr rfl⟩
  | _=>exact absurd rfl hg
end
section
variable {prog:Program}{w:World}{A:Around}{E:Value->Shared->Prop}{s:Shared}
end
section
variable {prog:Program}{w:World}{A:Around}{E:Value->Shared->Prop}{s:Shared}
end
section
variable {X:Cx}{a b:Expr}{ga gb:G->R D}
end
noncomputable def spT(K:PySem.W.Frag)(mg:Str->Option Value)(φ:List D->R D):Sp:=fun vs H Q E=>∃ds,IsAll K H ds vs/\φ ds ≠ .no /\
 (∀d1 d2 es p x y a xs H',φ ds = .ok (.tup [d1,d2,.lst es])->Same H H'->H a=none->H' a=some (.lst xs)->SqT K H' p [x,y,.ref a]->Is K H' d1 x->Is K H' d2 y->IsAll K H' es xs->Q (.ref p) H') /\
 (∀c C H',φ ds = .er c->mg c.nm=some (.ref C)->Same H H'->E (.ref C) none H')
structure FnT (P:Program) (w:World) (K:PySem.W.Frag) (mg:Str->Option Value) (base:Heap) (k:Nat) (f:Addr) (fd:FuncData) (ps:List Str) (φ:List D->R D):Prop where
 ok:FnOk P w K mg base (CXE P w) k f fd ps (spT K mg φ)
 binds:z6h K fd ps []
 kp:PySem.W.keepIn K (.ref f)=true
theorem FnT.mono{P:Program}{w:World}{K:PySem.W.Frag}{mg:Str->Option Value}{base:Heap}{j k:Nat}{f:Addr}{fd:FuncData}{ps:List Str}{φ:List D->R D}(F:FnT P w K mg base j f fd ps φ)(h:j<=k):FnT P w K mg base k f fd ps φ:=⟨F.ok.mono h,F.binds,F.kp⟩
theorem FnT.d{P:Program}{w:World}{K:PySem.W.Frag}{mg:Str->Option Value}{base:Heap}{k:Nat}{f:Addr}{fd:FuncData}{ps:List Str}{φ:List D->R D}(F:FnT P w K mg base k f fd ps φ):FnD P w K mg base k f fd ps φ :=
 ⟨F.ok.imp (fun vs H Q E h=>by
   obtain⟨ds,i,hne,hok,her⟩:=h
   refine⟨ds,i,hne,fun d1 d2 es p x y a xs H' e S hn ha hT i1 i2 ia=>?_,her⟩
   exact hok _ (.ref p) H' e S (Is.tup_iff.mpr ⟨p,_,rfl,hT,IsAll.cons i1 (IsAll.cons i2 (IsAll.cons (Is.lst_iff.mpr ⟨a,xs,rfl,SqL.of ha,ia⟩) IsAll.nil))⟩)),F.binds,F.kp⟩
section
variable {X:Cx}{e e1 e2 e3:Expr}{es:List Expr}{gs:G->R (List D)}{g g1 g2:G->R D}{g3:G->R (List D)}{pos p:Pos}{x:Str}{st:Stmt}{rest:List Stmt}{t u g':G->R Fl}
noncomputable def RtT(X:Cx)(pins:List (Addr×Obj))(H:Hp)(F:List Addr)(r:R Fl)(u:Value)(s':Shared):Prop:=∃σ' H' F' p x y a xs d1 d2 es,Inv X pins σ' H' s'/\u = .ref p/\Ext H F H' F'/\r = .ok (.rt (.tup [d1,d2,.lst es])) /\
 (a∈F∨H a=none)/\H' a=some (.lst xs)/\SqT X.K H' p [x,y,.ref a]/\Is X.K H' d1 x/\Is X.K H' d2 y/\IsAll X.K H' es xs
noncomputable def FlT(X:Cx)(pins:List (Addr×Obj))(H:Hp)(F:List Addr)(r:R Fl)(fl:Flow)(s':Shared):Prop:=match fl with
 | .ret u=>RtT X pins H F r u s'
 | _=>False
structure PT (X:Cx) (st:List Stmt) (g:G->R Fl):Prop where
 run:∀(pins:List (Addr×Obj)) (s:Shared) (σ:St) (H:Hp) (F:List Addr) (Γ:G),Inv X pins σ H s->FOk H F->Rel X.K H F Γ σ->g Γ ≠ .no ->
  wpAny (model X.prog X.w) X.A (execs st X.env) (FlT X pins H F (g Γ)) (FlX X pins H F (g Γ)) s
theorem FlT.later{pins:List (Addr×Obj)}{H H1:Hp}{F F1:List Addr}{r:R Fl}{fl:Flow}{s':Shared}(E:Ext H F H1 F1)(h:FlT X pins H1 F1 r fl s'):FlT X pins H F r fl s':=by
 cases fl with
 | ret u =>
   obtain⟨σ',H',F',p,x,y,a,xs,d1,d2,es,I,eu,E',er,hn,q⟩:=h
   refine⟨σ',H',F',p,x,y,a,xs,d1,d2,es,I,eu,E.trans E',er,?_,q⟩
   rcases hn with z | z
   ·exact E.old a z
   ·by_cases c:a∈F
    ·exact .inl c
    ·refine .inr ?_
     cases q:H a with
     | none=>rfl
     | some o=>rw[E.keep a o c q] at z;cases z
 | next=>exact h
 | brk=>exact h
 | cont=>exact h
structure PAL (X:Cx) (n:Nat) (es:List Expr) (g:G->R (List D)):Prop where
 run:∀(pos:Pos) (pins:List (Addr×Obj)) (s:Shared) (σ:St) (H:Hp) (F:List Addr) (Γ:G),Inv X pins σ H s->FOk H F->Rel X.K H F Γ σ->g Γ ≠ .no ->
  wpAny (model X.prog X.w) X.A (spliced (backTo pos (starEach es X.env))) (fun us s'=>∃ds es' vs a xs H',g Γ = .ok (ds++[.lst es'])/\ds.length=n/\Inv X pins σ H' s'/\Vals (vs++[.ref a]) us/\Same H H'/\H a=none/\H' a=some (.lst xs)/\IsAll X.K H' ds vs/\IsAll X.K H' es' xs) (z1a X pins σ H (g Γ)) s
end
section
variable {P:Program}{w:World}{K:PySem.W.Frag}{mg:Str->Option Value}{base:Heap}
end
noncomputable def NxK(X:Cx)(pins:List (Addr×Obj))(H:Hp)(F:List Addr)(Γ:G)(P:St->Prop)(s':Shared):Prop:=∃σ' H' F',Inv X pins σ' H' s'/\FOk H' F'/\Rel X.K H' F' Γ σ'/\Ext H F H' F'/\P σ'
noncomputable def FlK(X:Cx)(pins:List (Addr×Obj))(H:Hp)(F:List Addr)(r:R Fl)(P:St->Prop)(fl:Flow)(s':Shared):Prop:=match fl with
 | .next=>∃Γ',r = .ok (.nx Γ')/\NxK X pins H F Γ' P s'
 | .brk=>∃Γ',r = .ok (.bk Γ')/\NxK X pins H F Γ' P s'
 | .cont=>∃Γ',r = .ok (.ct Γ')/\NxK X pins H F Γ' P s'
 | .ret u=>RtP X pins H F r u s'
structure PK (X:Cx) (i:Nat) (st:Stmt) (g:G->R Fl):Prop where
 run:∀(pins:List (Addr×Obj)) (s:Shared) (σ:St) (H:Hp) (F:List Addr) (Γ:G),Inv X pins σ H s->FOk H F->Rel X.K H F Γ σ->g Γ ≠ .no ->
  wpAny (model X.prog X.w) X.A (exec st X.env) (FlK X pins H F (g Γ) fun σ'=>σ'[i]? = σ[i]?) (FlX X pins H F (g Γ)) s
structure PKs (X:Cx) (i:Nat) (st:List Stmt) (g:G->R Fl):Prop where
 run:∀(pins:List (Addr×Obj)) (s:Shared) (σ:St) (H:Hp) (F:List Addr) (Γ:G),Inv X pins σ H s->FOk H F->Rel X.K H F Γ σ->g Γ ≠ .no ->
  wpAny (model X.prog X.w) X.A (execs st X.env) (FlK X pins H F (g Γ) fun σ'=>σ'[i]? = σ[i]?) (FlX X pins H F (g Γ)) s
section
variable {X:Cx}{e c:Expr}{g:G->R D}{pos pos':Pos}{st:Stmt}{rest:List Stmt}{t u:G->R Fl}{i:Nat}
theorem FlK.later{pins:List (Addr×Obj)}{H H1:Hp}{F F1:List Addr}{r:R Fl}{P P':St->Prop}{fl:Flow}{s':Shared}(E:Ext H F H1 F1)(hP:∀σ,P σ->P' σ)(h:FlK X pins H1 F1 r P fl s'):FlK X pins H F r P' fl s':=by
 cases fl with
 | next=>obtain⟨Γ',e,σ',H',F',h1,h2,h3,h4,h5⟩:=h;exact⟨Γ',e,σ',H',F',h1,h2,h3,E.trans h4,hP _ h5⟩
 | brk=>obtain⟨Γ',e,σ',H',F',h1,h2,h3,h4,h5⟩:=h;exact⟨Γ',e,σ',H',F',h1,h2,h3,E.trans h4,hP _ h5⟩
 | cont=>obtain⟨Γ',e,σ',H',F',h1,h2,h3,h4,h5⟩:=h;exact⟨Γ',e,σ',H',F',h1,h2,h3,E.trans h4,hP _ h5⟩
 | ret u=>exact RtP.map h E (fun _ _ I=>I) (fun _ e=>e) fun _ e=>e
theorem y4c:PKs X i [] z1q:=⟨fun pins s σ H F Γ I fo rl _=>wpAny_execs_nil ⟨Γ,rfl,σ,H,F,I,fo,rl,.refl,rfl⟩⟩
theorem y8y(h1:PK X i st t):PKs X i [st] t:=by
 refine⟨fun pins s σ H F Γ I fo rl hg=>?_⟩
 refine wpAny_execs_cons (thn (h1.run pins s σ H F Γ I fo rl hg) fun fl s1 q=>?_)
 cases fl with
 | next=>exact wpAny_execs_nil q
 | ret v=>exact q
 | brk=>exact q
 | cont=>exact q
theorem x5n{cs ds:List Stmt}{gc:G->R Bool}(hc:PTD X c gc)(ha:PKs X i cs t)(hb:PKs X i ds u):PK X i (.If c cs ds pos) (gIfS gc t u):=by
 refine⟨fun pins s σ H F Γ I fo rl hg=>?_⟩
 refine wpAny_If (wpAny_mono (hc.run pins s σ H F Γ I fo rl (z1p hg)) (fun k s1 q=>?_) fun _ _ x=>x.lift fo rl _)
 obtain⟨H1,e1,I1,S1⟩:=q
 have e2:gIfS gc t u Γ=if k=true then t Γ else u Γ:=z2x e1
 rw[e2] at hg ⊢
 cases k with
 | true=>exact wpAny_mono (ha.run pins s1 σ H1 F Γ I1 (fo.same S1) (rl.same S1) hg) (fun _ _ q=>q.later (.of_same S1) fun _ z=>z) fun _ _ q=>q.later (.of_same S1)
 | false=>exact wpAny_mono (hb.run pins s1 σ H1 F Γ I1 (fo.same S1) (rl.same S1) hg) (fun _ _ q=>q.later (.of_same S1) fun _ z=>z) fun _ _ q=>q.later (.of_same S1)
theorem x2a(n:Nat){cnd:Expr}{body:List Stmt}{gc:G->R Bool}{gb:G->R Fl}(hp:PO' X)(hc:PTD X cnd gc)(hb:PKs X i body gb):PK X i (.While cnd body [] pos) (whGo gc gb n):=by
 refine⟨fun pins s σ H F Γ I fo rl hg=>?_⟩
 have hp':=hp pins H F (whGo gc gb n Γ)
 refine wpAny_While (codeAny_whileLoop (fun m s'=>∃(σ':St) (H':Hp) (F':List Addr) (Γ':G),Inv X pins σ' H' s'/\FOk H' F'/\Rel X.K H' F' Γ' σ'/\Ext H F H' F'/\whGo gc gb m Γ'=whGo gc gb n Γ/\σ'[i]? = σ[i]?) ?_ n ⟨σ,H,F,Γ,I,fo,rl,.refl,rfl,rfl⟩)
 rintro m s1 ⟨σ1,H1,F1,Γ1,I1,fo1,rl1,E1,ev1,k1⟩
 have hg1:whGo gc gb m Γ1 ≠ .no:=by rw[ev1];exact hg
 cases m with
 | zero=>exact absurd rfl hg1
 | succ m =>
   have evu:whGo gc gb (m+1) Γ1=lift (gc Γ1) Γ1 fun k=>if k=true then (match gb Γ1 with
    | .ok (.nx Γ')=>whGo gc gb m Γ'
    | .ok (.ct Γ')=>whGo gc gb m Γ'
    | .ok (.bk Γ')=>.ok (.nx Γ')
    | .ok (.rt d)=>.ok (.rt d)
    | .ok (.rtF d)=>.ok (.rtF d)
    | .ok (.ex c Γ')=>.ok (.ex c Γ')
    | _=>.no) else .ok (.nx Γ1):=rfl
   rw[evu] at hg1 ev1
   refine wpAny_passesOwn hp' (wpAny_mono (hc.run pins s1 σ1 H1 F1 Γ1 I1 fo1 rl1 (z1p hg1)) (fun k s2 q2=>?_) fun _ _ x=>by rw[<-ev1];exact(x.lift fo1 rl1 _).later E1)
   obtain⟨H2,e2,I2,S2⟩:=q2
   rw[z2x e2] at hg1 ev1
   have E2:=E1.trans (Ext.of_same S2)
   cases k with
   | false =>
     rw[if_neg Bool.false_ne_true] at ev1 ⊢
     exact wpAny_execs_nil ⟨Γ1,ev1.symm,σ1,H2,F1,I2,fo1.same S2,rl1.same S2,E2,k1⟩
   | true =>
     rw[if_pos rfl] at ev1 hg1 ⊢
     have hgb:gb Γ1 ≠ .no:=fun z=>by rw[z] at hg1;exact hg1 rfl
     refine wpAny_passesOwn hp' (wpAny_mono (hb.run pins s2 σ1 H2 F1 Γ1 I2 (fo1.same S2) (rl1.same S2) hgb) (fun f s3 q3=>?_) fun x3 s3 q3=>?_)
     ·cases f with
      | next =>
        obtain⟨Γ7,e7,σ7,H7,F7,I7,fo7,rl7,E7,k7⟩:=q3
        rw[e7] at ev1
        exact⟨m,Nat.lt_succ_self _,σ7,H7,F7,Γ7,I7,fo7,rl7,E2.trans E7,ev1,k7.trans k1⟩
      | cont =>
        obtain⟨Γ7,e7,σ7,H7,F7,I7,fo7,rl7,E7,k7⟩:=q3
        rw[e7] at ev1
        exact⟨m,Nat.lt_succ_self _,σ7,H7,F7,Γ7,I7,fo7,rl7,E2.trans E7,ev1,k7.trans k1⟩
      | brk =>
        obtain⟨Γ7,e7,σ7,H7,F7,I7,fo7,rl7,E7,k7⟩:=q3
        rw[e7] at ev1
        exact⟨Γ7,ev1.symm,σ7,H7,F7,I7,fo7,rl7,E2.trans E7,k7.trans k1⟩
      | ret v =>
        exact RtP.map q3 E2 (fun _ _ I7=>I7) (fun d7 e7=>by rw[e7] at ev1;exact ev1.symm) fun d7 e7=>by rw[e7] at ev1;exact ev1.symm
     ·obtain⟨c7,Γ7,σ7,H7,F7,e7,fl7,fo7,rl7,E7⟩:=q3
      rw[e7] at ev1
      exact⟨c7,Γ7,σ7,H7,F7,ev1.symm,fl7,fo7,rl7,E2.trans E7⟩
theorem Rel.frz1{K:PySem.W.Frag}{H:Hp}{F:List Addr}{Γ:G}{σ:St}{i:Nat}{ds:List D}{a:Addr}{xs:List V}(r:Rel K H F Γ σ)(e:Γ[i]? = some (.own ds))(h1:σ[i]? = some (some (.ref a)))(h3:H a=some (.lst xs))(h4:IsAll K (hid F H) ds xs):Rel K H (F.filter (fun b=>decide (b≠a))) (Γ.set i (.ro (.lst ds))) σ:=by
 have sub:∀b∈F.filter (fun b=>decide (b≠a)),b∈F:=fun b hb=>(List.mem_filter.mp hb).1
 have out:a ∉ F.filter (fun b=>decide (b≠a)):=fun z=>(of_decide_eq_true (List.mem_filter.mp z).2) rfl
 have S:Same (hid F H) (hid (F.filter (fun b=>decide (b≠a))) H):=fun b o h=>by
  obtain⟨z1,z2⟩:=z1e h
  rw[z0k fun z=>z1 (sub b z)]
  exact z2
 have hi:i<Γ.length:=by
  rcases Nat.lt_or_ge i Γ.length with z | z
  ·exact z
  ·rw[List.getElem?_eq_none z] at e;cases e
 refine⟨by rw[List.length_set];exact r.len,fun j d h=>?_,fun j es h=>?_,fun j k es fs c g1 g2 g3 g4=>?_⟩
 ·by_cases hj:i=j
  ·subst hj
   rw[List.getElem?_set_self hi] at h
   cases h
   exact⟨.ref a,h1,Is.lst_iff.mpr ⟨a,xs,rfl,SqL.of (by rw[z0k out];exact h3),h4.same S⟩⟩
  ·rw[List.getElem?_set_ne hj] at h
   obtain⟨v,q1,q2⟩:=r.ro j d h
   exact⟨v,q1,q2.same S⟩
 ·by_cases hj:i=j
  ·subst hj
   rw[List.getElem?_set_self hi] at h
   cases h
  ·rw[List.getElem?_set_ne hj] at h
   obtain⟨c,ys,q1,q2,q3,q4⟩:=r.own j es h
   refine⟨c,ys,q1,List.mem_filter.mpr ⟨q2,decide_eq_true fun z=>?_⟩,q3,q4.same S⟩
   subst z
   exact hj (r.inj i j ds es c e h h1 q1)
 ·have back:∀(m:Nat) (es:List D),(Γ.set i (.ro (.lst ds)))[m]? = some (.own es)->Γ[m]? = some (.own es):=fun m es h=>by
   by_cases hm:i=m
   ·subst hm
    rw[List.getElem?_set_self hi] at h
    cases h
   ·rw[List.getElem?_set_ne hm] at h;exact h
  exact r.inj j k es fs c (back j es g1) (back k fs g2) g3 g4
end
structure Pile (K:PySem.W.Frag) (H:Hp) (F:List Addr) (p:Nat) (σ:St) (dss:List (List D)) (a:Addr) (as:List Addr):Prop where
 loc:σ[p]? = some (some (.ref a))
 top:H a=some (.lst (as.map V.ref))
 len:as.length=dss.length
 each:∀(j:Nat) (b:Addr) (ds:List D),as[j]? = some b->dss[j]? = some ds->D.noLs ds=true/\∃xs,H b=some (.lst xs)/\IsAll K H ds xs
 nodup:(a::as).Nodup
 out:∀b∈a::as,b ∉ F
theorem Pile.at{K:PySem.W.Frag}{H:Hp}{F:List Addr}{p:Nat}{σ:St}{dss:List (List D)}{a:Addr}{as:List Addr}(h:Pile K H F p σ dss a as){b:Addr}(hb:b∈as):∃xs,H b=some (.lst xs):=by
 obtain⟨j,hj,rfl⟩:=List.mem_iff_getElem.mp hb
 have hl:=h.len
 obtain⟨_,xs,e,_⟩:=h.each j as[j] (dss[j]'(by lia)) (List.getElem?_eq_getElem hj) (List.getElem?_eq_getElem (by lia))
 exact⟨xs,e⟩
theorem Pile.has{K:PySem.W.Frag}{H:Hp}{F:List Addr}{p:Nat}{σ:St}{dss:List (List D)}{a:Addr}{as:List Addr}(h:Pile K H F p σ dss a as){b:Addr}(hb:b∈a::as):∃o,H b=some o:=by
 rcases List.mem_cons.mp hb with z | z
 ·exact⟨_,z ▸ h.top⟩
 ·obtain⟨xs,e⟩:=h.at z;exact⟨_,e⟩
theorem Pile.keep{K:PySem.W.Frag}{H H':Hp}{F F':List Addr}{p:Nat}{σ σ':St}{dss:List (List D)}{a:Addr}{as:List Addr}(h:Pile K H F p σ dss a as)(fo:FOk H F)(E:Ext H F H' F')(k:σ'[p]? = σ[p]?):Pile K H' F' p σ' dss a as where
 loc:=k.trans h.loc
 top:=E.keep a _ (h.out a List.mem_cons_self) h.top
 len:=h.len
 each:=fun j b ds hb hd=>by
  obtain⟨n,xs,e,i⟩:=h.each j b ds hb hd
  refine⟨n,xs,E.keep b _ (h.out b (List.mem_cons_of_mem _ (List.mem_of_getElem? hb))) e,?_⟩
  exact((IsAll.hid fo ds xs n i).same E.hid).same z1j
 nodup:=h.nodup
 out:=fun b hb z=>by
  obtain⟨o,e⟩:=h.has hb
  rcases E.old b z with w | w
  ·exact h.out b hb w
  ·rw[e] at w;cases w
noncomputable def NxP'(X:Cx)(p:Nat)(pins:List (Addr×Obj))(H:Hp)(A:List Addr)(Γ':G)(s':Shared):Prop:=∃σ' H' F' dss a as,Inv X pins σ' H' s'/\FOk H' F'/\Rel X.K H' F' Γ' σ'/\Γ'[p]? = some (.ro (.lst (dss.map D.lst)))/\Pile X.K H' F' p σ' dss a as/\Ext H A H' (F'++a::as)
structure PP (X:Cx) (p:Nat) (st:Stmt) (g:G->R Fl):Prop where
 run:∀(pins:List (Addr×Obj)) (s:Shared) (σ:St) (H:Hp) (F:List Addr) (Γ Γ':G) (dss:List (List D)) (a:Addr) (as:List Addr),Inv X pins σ H s->FOk H F->Rel X.K H F Γ σ->Γ[p]? = some (.ro (.lst (dss.map D.lst)))->Pile X.K H F p σ dss a as->g Γ = .ok (.nx Γ') ->
  wpAny (model X.prog X.w) X.A (exec st X.env) (fun fl s'=>fl = .next/\NxP' X p pins H (F++a::as) Γ' s') (fun _ _=>False) s
structure PPs (X:Cx) (p:Nat) (st:List Stmt) (g:G->R Fl):Prop where
 run:∀(pins:List (Addr×Obj)) (s:Shared) (σ:St) (H:Hp) (F:List Addr) (Γ Γ':G) (dss:List (List D)) (a:Addr) (as:List Addr),Inv X pins σ H s->FOk H F->Rel X.K H F Γ σ->Γ[p]? = some (.ro (.lst (dss.map D.lst)))->Pile X.K H F p σ dss a as->g Γ = .ok (.nx Γ') ->
  wpAny (model X.prog X.w) X.A (execs st X.env) (fun fl s'=>fl = .next/\NxP' X p pins H (F++a::as) Γ' s') (fun _ _=>False) s
section
variable {X:Cx}{p:Nat}{st:Stmt}{rest:List Stmt}{t u:G->R Fl}{c:Expr}{pos:Pos}
theorem NxP'.later{pins:List (Addr×Obj)}{H H1:Hp}{A A1:List Addr}{Γ':G}{s':Shared}(E:Ext H A H1 A1)(h:NxP' X p pins H1 A1 Γ' s'):NxP' X p pins H A Γ' s':=by
 obtain⟨σ',H',F',dss,a,as,h1,h2,h3,h4,h5,h6⟩:=h
 exact⟨σ',H',F',dss,a,as,h1,h2,h3,h4,h5,E.trans h6⟩
theorem Pile.same{K:PySem.W.Frag}{H H':Hp}{F:List Addr}{p:Nat}{σ:St}{dss:List (List D)}{a:Addr}{as:List Addr}(h:Pile K H F p σ dss a as)(fo:FOk H F)(S:Same H H'):Pile K H' F p σ dss a as:=h.keep fo (.of_same S) rfl
theorem x1r{H:Hp}{F:List Addr}{b:Addr}{ys:List V}:Same (hid (b::F) H) (hid F (upd H b (.lst ys))):=fun c o h=>by
 obtain⟨h1,h2⟩:=z1e h
 rw[z0k fun z=>h1 (List.mem_cons_of_mem _ z),z0s fun z=>h1 (by rw[z];exact List.mem_cons_self)]
 exact h2
theorem y2q{K:PySem.W.Frag}{H:Hp}{F:List Addr}{b:Addr}{xs ys:List V}{ds:List D}{vs:List V}(fo:FOk H F)(hb:H b=some (.lst xs))(n:D.noLs ds=true)(h:IsAll K H ds vs):IsAll K (hid F (upd H b (.lst ys))) ds vs:=(IsAll.hid (fo.cons hb) ds vs n h).same x1r
theorem IsAll.of_get{K:PySem.W.Frag}{H:Hp}:∀{ds:List D} {vs:List V},ds.length=vs.length->(∀(j:Nat) d v,ds[j]? = some d->vs[j]? = some v->Is K H d v)->IsAll K H ds vs
 | [],[],_,_=>IsAll.nil
 | [],_::_,h,_=>by simp at h
 | _::_,[],h,_=>by simp at h
 | d::ds,v::vs,h,q=>IsAll.cons (q 0 d v rfl rfl) (IsAll.of_get (by simpa using h) fun j d' v' a b=>q (j+1) d' v' a b)
theorem Pile.is{K:PySem.W.Frag}{H:Hp}{F:List Addr}{p:Nat}{σ:St}{dss:List (List D)}{a:Addr}{as:List Addr}(h:Pile K H F p σ dss a as)(fo:FOk H F):Is K (hid F H) (.lst (dss.map D.lst)) (.ref a):=by
 refine Is.lst_iff.mpr ⟨a,as.map V.ref,rfl,SqL.of (by rw[z0k (h.out a List.mem_cons_self)];exact h.top),IsAll.of_get (by rw[List.length_map,List.length_map,h.len]) fun j d v h1 h2=>?_⟩
 rw[List.getElem?_map] at h1 h2
 obtain⟨ds,e1,rfl⟩:=Option.map_eq_some_iff.mp h1
 obtain⟨b,e2,rfl⟩:=Option.map_eq_some_iff.mp h2
 obtain⟨n,xs,e,i⟩:=h.each j b ds e2 e1
 exact Is.lst_iff.mpr ⟨b,xs,rfl,SqL.of (by rw[z0k (h.out b (List.mem_cons_of_mem _ (List.mem_of_getElem? e2)))];exact e),IsAll.hid fo ds xs n i⟩
theorem Pile.new{K:PySem.W.Frag}{H H1:Hp}{F:List Addr}{p:Nat}{σ:St}{dss:List (List D)}{a b:Addr}{as:List Addr}(h:Pile K H F p σ dss a as)(fo:FOk H F)(S:Same H H1)(hn:H b=none)(hb:H1 b=some (.lst [])):Pile K (upd H1 a (.lst ((as++[b]).map V.ref))) F p σ (dss++[[]]) a (as++[b]):=by
 have h1:=h.same fo S
 have fo1:=fo.same S
 have ha:=h1.top
 have hna:b≠a:=fun z=>by rw[z,h.top] at hn;cases hn
 have hnb:b ∉ as:=fun z=>by obtain⟨o,e⟩:=h.at z;rw[e] at hn;cases hn
 have nd:=List.nodup_cons.mp h.nodup
 have up:∀{vs:List V} {es:List D},D.noLs es=true->IsAll K H1 es vs->IsAll K (upd H1 a (.lst ((as++[b]).map V.ref))) es vs:=fun n i=>(y2q fo1 ha n i).same z1j
 refine⟨h.loc,z0l,by simp[h.len],fun j c es hc he=>?_,?_,fun c hc=>?_⟩
 ·rcases Nat.lt_or_ge j as.length with z | z
  ·rw[List.getElem?_append_left z] at hc
   rw[List.getElem?_append_left (by rw[<-h.len];exact z)] at he
   obtain⟨n1,vs,e1,i1⟩:=h1.each j c es hc he
   exact⟨n1,vs,by rw[z0s fun w=>nd.1 (by rw[<-w];exact List.mem_of_getElem? hc)];exact e1,up n1 i1⟩
  ·rw[List.getElem?_append_right z] at hc
   rw[List.getElem?_append_right (by rw[<-h.len];exact z)] at he
   have ej:j-as.length=0:=by
    rcases Nat.eq_zero_or_pos (j-as.length) with w | w
    ·exact w
    ·rw[List.getElem?_eq_none (by simp;lia)] at hc;cases hc
   rw[ej] at hc
   rw[show j-dss.length=0 by rw[<-h.len];exact ej] at he
   cases hc
   cases he
   exact⟨rfl,[],by rw[z0s hna];exact hb,IsAll.nil⟩
 ·refine List.nodup_cons.mpr ⟨fun z=>?_,?_⟩
  ·rcases List.mem_append.mp z with w | w
   ·exact nd.1 w
   ·rw[List.mem_singleton] at w;exact hna w.symm
  ·exact List.nodup_append.mpr ⟨nd.2,by simp,fun x hx y hy e=>by rw[List.mem_singleton] at hy;rw[hy] at e;exact hnb (e ▸ hx)⟩
 ·rcases List.mem_cons.mp hc with w | w
  ·exact h.out c (by rw[w];exact List.mem_cons_self)
  ·rcases List.mem_append.mp w with w | w
   ·exact h.out c (List.mem_cons_of_mem _ w)
   ·rw[List.mem_singleton] at w
    intro z
    obtain⟨ys,e⟩:=fo c z
    rw[w,hn] at e;cases e
theorem Pile.pop{K:PySem.W.Frag}{H:Hp}{F:List Addr}{p:Nat}{σ:St}{dss:List (List D)}{ds:List D}{a b:Addr}{as:List Addr}(h:Pile K H F p σ (dss++[ds]) a (as++[b]))(fo:FOk H F):Pile K (upd H a (.lst (as.map V.ref))) F p σ dss a as:=by
 have nd:=List.nodup_cons.mp h.nodup
 have hl:as.length=dss.length:=by have:=h.len;simpa using this
 have up:∀{vs:List V} {es:List D},D.noLs es=true->IsAll K H es vs->IsAll K (upd H a (.lst (as.map V.ref))) es vs:=fun n i=>(y2q fo h.top n i).same z1j
 refine⟨h.loc,z0l,hl,fun j c es hc he=>?_,?_,fun c hc=>h.out c ?_⟩
 ·have z:j<as.length:=by
   rcases Nat.lt_or_ge j as.length with w | w
   ·exact w
   ·rw[List.getElem?_eq_none w] at hc;cases hc
  obtain⟨n1,vs,e1,i1⟩:=h.each j c es (by rw[List.getElem?_append_left z];exact hc) (by rw[List.getElem?_append_left (by lia)];exact he)
  exact⟨n1,vs,by rw[z0s fun w=>nd.1 (by rw[<-w];exact List.mem_append_left _ (List.mem_of_getElem? hc))];exact e1,up n1 i1⟩
 ·exact List.nodup_cons.mpr ⟨fun z=>nd.1 (List.mem_append_left _ z),(List.nodup_append.mp nd.2).1⟩
 ·rcases List.mem_cons.mp hc with w | w
  ·rw[w];exact List.mem_cons_self
  ·exact List.mem_cons_of_mem _ (List.mem_append_left _ w)
structure PM (X:Cx) (e:Expr) (gm:G->R (D×G)):Prop where
 run:∀(pins:List (Addr×Obj)) (s:Shared) (σ:St) (H:Hp) (F:List Addr) (Γ Γ1:G) (d:D),Inv X pins σ H s->FOk H F->Rel X.K H F Γ σ->gm Γ = .ok (d,Γ1) ->
  wpAny (model X.prog X.w) X.A (eval e X.env) (fun u s'=>∃y H',Inv X pins σ H' s'/\RelV y u/\FOk H' F/\Rel X.K H' F Γ1 σ/\Ext H F H' F/\Is X.K H' d y) (fun _ _=>False) s
structure PPq (X:Cx) (p:Nat) (st:List Stmt) (g:G->R Fl):Prop where
 run:∀(pins:List (Addr×Obj)) (s:Shared) (σ:St) (H:Hp) (F:List Addr) (Γ:G) (dss:List (List D)) (a:Addr) (as:List Addr),Inv X pins σ H s->FOk H F->Rel X.K H F Γ σ->Γ[p]? = some (.ro (.lst (dss.map D.lst)))->Pile X.K H F p σ dss a as->g Γ ≠ .no ->
  wpAny (model X.prog X.w) X.A (execs st X.env) (FlP X pins H (F++a::as) (g Γ)) (FlX X pins H (F++a::as) (g Γ)) s
end
section
variable {X:Cx}{e:Expr}{g:G->R D}{pos pos' p pt:Pos}
theorem x5m(i:Nat){m0:Nat}{x:Str}{g:G->R (List D)}(he:PF X e g)(hN:X.N.Nodup)(hij:i≠m0:=by decide)(hi:X.N[i]? = some x:=by rfl)(hx:Loc X.env.scope x:=by first | exact Or.inl rfl | exact Or.inr rfl)(hs:swapsWith e (some (.Name x pos')) pos.line X.env=pure false:=by rfl)(hf:X.fn x=true∨X.env.scope.names.lookup x=some .local:=by first | exact .inl rfl | exact .inr rfl | assumption) :
 PK X m0 (.Assign [.Name x pos'] e pos) (z3h i g):=by
 refine⟨fun pins s σ H F Γ I fo rl hg=>?_⟩
 refine wpAny_Assign_Name (wpAny_mono (he.run pins s σ H F Γ I fo rl (z1p hg)) (fun v s1 ⟨ds,a,xs,H1,e1,I1,eu,S1,hn,ha,i1⟩=>?_) fun _ _ x=>x.lift fo rl _) hs
 subst eu
 exact z6l (v:=.ref a) I1 hN hi hx rfl (fun s2 I2=>⟨_,z2x e1,_,H1,a::F,I2,(fo.same S1).cons ha,rl.set_own fo S1 hn ha i1,⟨fun b o _ h=>S1 _ _ h,fun b hb=>(List.mem_cons.mp hb).elim (fun z=>.inr (z ▸ hn)) .inl⟩,List.getElem?_set_ne hij⟩) hf
end
section
variable {X:Cx}{e:Expr}{pos p:Pos}{x:Str}{es:List Expr}{gs:G->R (List D)}
end
noncomputable abbrev rowK (X:Cx):HeapKind X.prog X.w (List Int):=tupleKind (intKind X.prog X.w)
noncomputable def DK(X:Cx)(H:Hp)(ob:Obj)(ks:List (List Int)):Prop:=∃(xs:List (List Int×Addr×Value)) (es:Array DictEntry) (ep:Nat),ob.ExactDict/\ob.data = .dict es ep/\es.toList=xs.map (entryOfKey (rowK X))/\(xs.map (·.1)).Nodup /\
 (∀x∈xs,SqT X.K H x.2.1 (x.1.map V.int))/\(∀k,k∈xs.map (·.1)↔k∈ks)/\xs.length<=ks.length
section
variable {X:Cx}{pins:List (Addr×Obj)}{σ:St}{H:Hp}{s:Shared}{a b:Addr}{ob:Obj}{ks:List (List Int)}{k:List Int}
theorem y0l{P:Program}{w:World}:∀{ns:List Int} {its:List Value},Vals (ns.map V.int) its->ItemsAre (intKind P w) ns its
 | [],_,h=>by cases h;exact .nil
 | n::ns,_,h=>by
   cases h with
   | cons h1 h2 =>
     obtain⟨t,rfl⟩:=h1
     exact .cons (by simp[intKind,Value.isInt]) (y0l h2)
theorem y3v(I:Inv X pins σ H s)(h:SqT X.K H b (k.map V.int)):(rowK X).is s.heap k b:=by
 obtain⟨its,r,⟨o,h1,h2,n,h3⟩,_⟩:=I.tuple h
 exact⟨o,its.toArray,n,h1,h2,h3,by simpa using y0l r⟩
theorem DK.dict(I:Inv X pins σ H s)(h:s.heap.get? a=some ob)(dk:DK X H ob ks):∃xs:List (List Int×Addr×Value),s.heap.DictOfH (rowK X) a xs/\(∀x∈xs,SqT X.K H x.2.1 (x.1.map V.int))/\(∀k,k∈xs.map (·.1)↔k∈ks)/\xs.length<=ks.length:=by
 obtain⟨xs,es,ep,h1,h2,h3,h4,h5,h6,h7⟩:=dk
 exact⟨xs,⟨ob,es,ep,h,h1,h2,h3,fun x hx=>y3v I (h5 x hx),h4⟩,h5,h6,h7⟩
theorem x7b(xs:List (List Int×Addr×Value))(k:List Int):(atKey xs k).isSome=decide (k∈xs.map (·.1)):=by
 unfold atKey
 rw[Option.isSome_map,Bool.eq_iff_iff,List.find?_isSome,decide_eq_true_iff]
 constructor
 ·rintro⟨x,hx,e⟩
  exact List.mem_map.mpr ⟨x,hx,of_decide_eq_true e⟩
 ·intro h
  obtain⟨x,hx,e⟩:=List.mem_map.mp h
  exact⟨x,hx,decide_eq_true e⟩
theorem DK.put{H₀:Hp}{E:Value->Shared->Prop}{Q:Unit->Shared->Prop}{v:Value}(I:Inv X pins σ H s)(S:Same H₀ H)(h:s.heap.get? a=some ob)(dk:DK X H₀ ob ks)(hk:SqT X.K H₀ b (k.map V.int))(hu:X.A.units+64<cLine)(hl:ks.length<=20000)
 (q:∀h' ob' tk,h'.get? a=some ob'->DK X H₀ ob' (ks++[k])->Heap.SameBut a s.heap h'->Q () { s with heap:=h',toks:=tk }) :
 wpAny (model X.prog X.w) X.A (setItem (.ref a) (.ref b) v) Q E s:=by
 obtain⟨xs,es0,ep0,z1,z2,z3,z4,h2,h3,h4⟩:=dk
 have h1:s.heap.DictOfH (rowK X) a xs:=⟨ob,es0,ep0,h,z1,z2,z3,fun x hx=>y3v I (z2e S (h2 x hx)),z4⟩
 refine wpAny_setItem_heap (knd:=rowK X) (show X.A.units+1<cLine by lia) (y3v I (z2e S hk)) h1 (fun h' hd hs=>?_) (by rw[sizeLine_eq];lia)
 obtain⟨ob',es,ep,g1,g2,g3,g4,g5,g6⟩:=hd
 refine q h' ob' _ g1 ⟨_,es,ep,g2,g3,g4,g6,?_,?_,?_⟩ hs
 ·intro x hx
  unfold storedH at hx
  split at hx
  ·obtain⟨y,hy,rfl⟩:=List.mem_map.mp hx
   unfold putAt
   split
   ·exact h2 y hy
   ·exact h2 y hy
  ·rcases List.mem_append.mp hx with z | z
   ·exact h2 x z
   ·rw[List.mem_singleton] at z;subst z;exact hk
 ·intro k'
  rw[List.mem_append,List.mem_singleton,<-h3 k']
  unfold storedH
  split
  ·rename_i hz
   rw[x7b,decide_eq_true_iff] at hz
   rw[List.map_map,show((fun x:List Int×Addr×Value=>x.1) ∘ putAt k v)=fun x=>x.1 by funext x;simp only[Function.comp,putAt];split<;>rfl]
   exact⟨.inl,fun z=>z.elim id fun e=>e ▸ hz⟩
  ·rw[List.map_append,List.mem_append]
   simp
 ·unfold storedH
  split
  ·rw[List.length_map,List.length_append];lia
  ·rw[List.length_append,List.length_append];exact Nat.add_le_add_right h4 1
theorem DK.same{H':Hp}(dk:DK X H ob ks)(S:Same H H'):DK X H' ob ks:=by
 obtain⟨xs,es,ep,h1,h2,h3,h4,h5,h6⟩:=dk
 exact⟨xs,es,ep,h1,h2,h3,h4,fun x hx=>z2e S (h5 x hx),h6⟩
end
noncomputable def blkQ(m i pt:Nat):SetTable.Probe:={ j:=i,more:=SetTable.runEnd m i-i,i:=i,perturb:=pt,dummy:=none }
noncomputable def advQ(m:Nat)(p:SetTable.Probe):SetTable.Probe :=
 if p.more>0 then { p with j:=p.j+1,more:=p.more-1 } else
 { p with j:=(SetTable.leap m p.i p.perturb).1,more:=SetTable.runEnd m (SetTable.leap m p.i p.perturb).1-(SetTable.leap m p.i p.perturb).1,i:=(SetTable.leap m p.i p.perturb).1,perturb:=(SetTable.leap m p.i p.perturb).2 }
noncomputable def wayQ(m:Nat)(p:SetTable.Probe):Nat->SetTable.Probe
 | 0=>p
 | n+1=>wayQ m (advQ m p) n
theorem z8n(m:Nat):∀(a b:Nat) (p:SetTable.Probe),wayQ m p (a+b)=wayQ m (wayQ m p a) b
 | 0,b,p=>by rw[Nat.zero_add];rfl
 | a+1,b,p=>by rw[show a+1+b=(a+b)+1 by lia];exact z8n m a b (advQ m p)
theorem x1k(m n:Nat)(p:SetTable.Probe):wayQ m p (n+1)=advQ m (wayQ m p n):=z8n m n 1 p
theorem y3t(m:Nat):∀(k:Nat) (p:SetTable.Probe),k<=p.more->wayQ m p k={ p with j:=p.j+k,more:=p.more-k }
 | 0,p,_=>rfl
 | k+1,p,h=>by
   show wayQ m (advQ m p) k=_
   have e:advQ m p={ p with j:=p.j+1,more:=p.more-1 }:=by unfold advQ;rw[if_pos (by lia)]
   rw[e,y3t m k _ (by show k<=p.more-1;lia)]
   obtain⟨j,mo,i,pt,d⟩:=p
   simp only[SetTable.Probe.mk.injEq,and_true,true_and]
   constructor<;>lia
theorem y0u(m:Nat)(p:SetTable.Probe)(hd:p.dummy=none):wayQ m p (p.more+1)=blkQ m (SetTable.leap m p.i p.perturb).1 (SetTable.leap m p.i p.perturb).2:=by
 rw[x1k,y3t m p.more p (Nat.le_refl _)]
 unfold advQ
 rw[if_neg (by show ¬p.more-p.more>0;lia)]
 obtain⟨j,mo,i,pt,d⟩:=p
 cases hd
 rfl
noncomputable def lpQ(m:Nat)(q:Nat×Nat):Nat->Nat×Nat
 | 0=>q
 | n+1=>lpQ m (SetTable.leap m q.1 q.2) n
theorem x4g(m:Nat):∀(a b:Nat) (q:Nat×Nat),lpQ m q (a+b)=lpQ m (lpQ m q a) b
 | 0,b,q=>by rw[Nat.zero_add];rfl
 | a+1,b,q=>by rw[show a+1+b=(a+b)+1 by lia];exact x4g m a b (SetTable.leap m q.1 q.2)
theorem x8e(m:Nat):∀(a:Nat) (q:Nat×Nat),(lpQ m q a).2=q.2/32^a
 | 0,q=>by simp[lpQ]
 | a+1,q=>by
   show(lpQ m (SetTable.leap m q.1 q.2) a).2=_
   rw[x8e m a,show(SetTable.leap m q.1 q.2).2=q.2/32 from rfl,Nat.div_div_eq_div_mul,Nat.pow_succ,Nat.mul_comm 32]
theorem y4s(m i pt:Nat):(SetTable.leap m i pt).1<=m:=Nat.le_of_lt_succ (Nat.mod_lt _ (Nat.succ_pos _))
theorem x8f(m:Nat):∀(a:Nat) (q:Nat×Nat),q.1<=m->(lpQ m q a).1<=m
 | 0,q,h=>h
 | a+1,q,h=>x8f m a _ (y4s m q.1 q.2)
theorem cov0{m:Nat}(hm:m=7∨m=31):∀i,i<m+1->∀j,j<m+1->∃k,k<m+1/\(lpQ m (i,0) k).1=j:=by
 rcases hm with rfl | rfl<;>decide +kernel
theorem cov1{m:Nat}(hm:m=7∨m=31){i pt j:Nat}(hi:i<=m)(hp:pt<2^64)(hj:j<=m):∃b,b<=13+m/\(lpQ m (i,pt) b).1=j:=by
 have z:(lpQ m (i,pt) 13).2=0:=by
  rw[x8e]
  exact Nat.div_eq_of_lt (Nat.lt_trans hp (by decide))
 obtain⟨k,hk,e⟩:=cov0 hm (lpQ m (i,pt) 13).1 (by have:=x8f m 13 (i,pt) hi;lia) j (by lia)
 refine⟨13+k,by lia,?_⟩
 rw[x4g,<-e,show lpQ m (i,pt) 13=((lpQ m (i,pt) 13).1,0) from by rw[<-z]]
theorem x3u(m i:Nat):SetTable.runEnd m i-i<=9:=by unfold SetTable.runEnd;split<;>lia
theorem x3m(m:Nat):∀(b i pt:Nat),∃n,n<=10*b/\wayQ m (blkQ m i pt) n=blkQ m (lpQ m (i,pt) b).1 (lpQ m (i,pt) b).2
 | 0,i,pt=>⟨0,by lia,rfl⟩
 | b+1,i,pt=>by
   obtain⟨n,hn,e⟩:=x3m m b (SetTable.leap m i pt).1 (SetTable.leap m i pt).2
   refine⟨(SetTable.runEnd m i-i+1)+n,by have:=x3u m i;lia,?_⟩
   rw[z8n,show SetTable.runEnd m i-i+1=(blkQ m i pt).more+1 from rfl,y0u m _ rfl]
   exact e
structure GoodP (m:Nat) (p:SetTable.Probe):Prop where
 i:p.i<=m
 pt:p.perturb<2^64
 more:p.more<=9
 dum:p.dummy=none
 jm:p.j+p.more<=m
theorem x7k{m i:Nat}(h:i<=m):SetTable.runEnd m i<=m:=by unfold SetTable.runEnd;split<;>lia
theorem x7l(m i:Nat):i<=SetTable.runEnd m i:=by unfold SetTable.runEnd;split<;>lia
theorem GoodP.blkQ'{m i pt:Nat}(hi:i<=m)(hp:pt<2^64):GoodP m (blkQ m i pt):=⟨hi,hp,x3u m i,rfl,by have:=x7k hi;have:=x7l m i;show i+(SetTable.runEnd m i-i)<=m;lia⟩
theorem cov2{m:Nat}(hm:m=7∨m=31){p:SetTable.Probe}(g:GoodP m p){j:Nat}(hj:j<=m):∃n,n<10*SetTable.turns m/\(wayQ m p n).j=j:=by
 obtain⟨b,hb,e⟩:=cov1 hm (i:=(SetTable.leap m p.i p.perturb).1) (pt:=(SetTable.leap m p.i p.perturb).2) (y4s _ _ _) (by have:=g.pt;show p.perturb/32<2^64;lia) hj
 obtain⟨n,hn,e2⟩:=x3m m b (SetTable.leap m p.i p.perturb).1 (SetTable.leap m p.i p.perturb).2
 refine⟨(p.more+1)+n,by have:=g.more;unfold SetTable.turns;lia,?_⟩
 rw[z8n,y0u m p g.dum,e2]
 exact e
theorem y4f:∀(n:Nat) (l:List Nat),l.length<n->∃j,j<n/\j ∉ l
 | 0,l,h=>absurd h (Nat.not_lt_zero _)
 | n+1,l,h=>by
   by_cases q:n∈l
   ·have hl:(l.filter (·≠n)).length<n:=by
     have:(l.filter (·≠n)).length<l.length:=List.length_filter_lt_length_iff_exists.mpr ⟨n,q,by simp⟩
     lia
    obtain⟨j,hj,hn⟩:=y4f n _ hl
    refine⟨j,by lia,fun z=>hn (List.mem_filter.mpr ⟨z,by simpa using (by lia:¬j=n)⟩)⟩
   ·exact⟨n,Nat.lt_succ_self _,q⟩
noncomputable def RchQ(m:Nat)(occ:Nat->Prop)(h:Int)(j:Nat):Prop :=
 ∃n,(wayQ m (blkQ m (SetTable.bits h%(m+1)) (SetTable.bits h)) n).j=j/\∀k,k<n->occ (wayQ m (blkQ m (SetTable.bits h%(m+1)) (SetTable.bits h)) k).j
theorem RchQ.mono{m:Nat}{occ occ':Nat->Prop}{h:Int}{j:Nat}(x:RchQ m occ h j)(f:∀j,occ j->occ' j):RchQ m occ' h j :=
 let ⟨n,a,b⟩:=x;⟨n,a,fun k hk=>f _ (b k hk)⟩
theorem y7p(m:Nat)(h:Int):GoodP m (blkQ m (SetTable.bits h%(m+1)) (SetTable.bits h)):=by
 refine GoodP.blkQ' (Nat.le_of_lt_succ (Nat.mod_lt _ (Nat.succ_pos _))) ?_
 unfold SetTable.bits
 have:h%(2^64:Int)<2^64:=Int.emod_lt_of_pos _ (by decide)
 have h0:0<=h%(2^64:Int):=Int.emod_nonneg _ (by decide)
 lia
structure TabS (t:SetTable) (L:List (Nat×Int×Value)):Prop where
 mask:t.mask=7∨t.mask=31
 dum:t.dummies=#[]
 plc:t.place.toList=L.map (·.1)
 up:(L.map (·.1)).Pairwise (·<·)
 le:∀q∈L,q.1<=t.mask
 room:L.length<=t.mask
 reach:∀q∈L,RchQ t.mask (fun j=>j∈L.map (·.1)) q.2.1 q.1
theorem TabS.live{t:SetTable}{L:List (Nat×Int×Value)}(T:TabS t L){i:Nat}{q:Nat×Int×Value}(h:L[i]? = some q):t.slot q.1 = .live i:=by
 have hp:t.place[i]? = some q.1:=by rw[<-Array.getElem?_toList,T.plc,List.getElem?_map,h];rfl
 have hup:t.place.toList.Pairwise (·<·):=by rw[T.plc];exact T.up
 obtain⟨b1,b2,b3⟩:=y6m hup q.1
 have e:SetTable.below t.place q.1=i:=by
  rcases Nat.lt_trichotomy (SetTable.below t.place q.1) i with w | w | w
  ·obtain⟨hi,ei⟩:=Array.getElem?_eq_some_iff.mp hp
   have hb:SetTable.below t.place q.1<t.place.size:=by lia
   have:=List.pairwise_iff_getElem.mp hup _ i (by simpa using hb) (by simpa using hi) w
   rw[Array.getElem_toList,Array.getElem_toList,ei] at this
   have:=b3 _ _ (Nat.le_refl _) (Array.getElem?_eq_getElem hb)
   lia
  ·exact w
  ·exact absurd (b2 i _ w hp) (Nat.lt_irrefl _)
 unfold SetTable.slot
 dsimp only
 rw[e,hp]
 simp
theorem TabS.free{t:SetTable}{L:List (Nat×Int×Value)}(T:TabS t L){p:SetTable.Probe}(g:GoodP t.mask p):∃n,n<10*SetTable.turns t.mask/\(wayQ t.mask p n).j ∉ L.map (·.1):=by
 obtain⟨j,hj,hn⟩:=y4f (t.mask+1) (L.map (·.1)) (by rw[List.length_map];have:=T.room;lia)
 obtain⟨n,h1,h2⟩:=cov2 T.mask g (j:=j) (by lia)
 exact⟨n,h1,by rw[h2];exact hn⟩
theorem TabS.put{t:SetTable}{L:List (Nat×Int×Value)}(T:TabS t L){j:Nat}{h:Int}{x:Value}(hj:j ∉ L.map (·.1))(hle:j<=t.mask)(hr:RchQ t.mask (fun j=>j∈L.map (·.1)) h j)(room:L.length+1<=t.mask){t':SetTable}(e1:t'.mask=t.mask)(e2:t'.dummies=t.dummies)(e3:t'.place=SetTable.insertAt t.place (SetTable.below t.place j) j)
 {es:Array (Int×Value)} (hes:es.toList=L.map (·.2)):∃L',TabS t' L'/\(SetTable.insertAt es (SetTable.below t.place j) (h,x)).toList=L'.map (·.2)/\L'.Perm ((j,h,x)::L):=by
 have hup:t.place.toList.Pairwise (·<·):=by rw[T.plc];exact T.up
 have hnb:t.place[SetTable.below t.place j]? ≠ some j:=fun z=>hj (by
  rw[<-T.plc];rw[<-Array.getElem?_toList] at z;exact List.mem_of_getElem? z)
 have u:=y2r hup hnb
 generalize SetTable.below t.place j=p at *
 have per:(L.take p++(j,h,x)::L.drop p).Perm ((j,h,x)::L):=by
  have:=List.perm_middle (a:=(j,h,x)) (l₁:=L.take p) (l₂:=L.drop p)
  rw[List.take_append_drop] at this
  exact this
 have hmem:∀q,q∈L.take p++(j,h,x)::L.drop p↔q=(j,h,x)∨q∈L:=fun q=>by rw[per.mem_iff,List.mem_cons]
 have hmap:∀a,a∈(L.take p++(j,h,x)::L.drop p).map (·.1)↔a=j∨a∈L.map (·.1):=fun a=>by
  simp only[List.mem_map,hmem]
  constructor
  ·rintro⟨q,rfl | hq,rfl⟩
   ·exact .inl rfl
   ·exact .inr ⟨q,hq,rfl⟩
  ·rintro(rfl | ⟨q,hq,rfl⟩)
   ·exact⟨_,.inl rfl,rfl⟩
   ·exact⟨q,.inr hq,rfl⟩
 have hpl:(SetTable.insertAt t.place p j).toList=(L.take p++(j,h,x)::L.drop p).map (·.1):=by
  rw[SetTable.toList_insertAt,T.plc,List.map_append,List.map_cons,List.map_take,List.map_drop]
 refine⟨L.take p++(j,h,x)::L.drop p,⟨by rw[e1];exact T.mask,by rw[e2];exact T.dum,by rw[e3];exact hpl,by rw[<-hpl];exact u,fun q hq=>?_,by rw[per.length_eq,e1];exact room,fun q hq=>?_⟩,?_,per⟩
 ·rw[e1]
  rcases(hmem q).mp hq with rfl | z
  ·exact hle
  ·exact T.le q z
 ·rw[e1]
  rcases(hmem q).mp hq with rfl | z
  ·exact hr.mono fun a ha=>(hmap a).mpr (.inr ha)
  ·exact(T.reach q z).mono fun a ha=>(hmap a).mpr (.inr ha)
 ·rw[SetTable.toList_insertAt,hes,List.map_append,List.map_cons,List.map_take,List.map_drop]
theorem x4o{m:Nat}{ow:Array (Option Nat)}{Lo:List Nat}(ho:∀j,j<=m->((ow.getD j (some 0)).isNone=true↔j ∉ Lo)):∀(fuel i pt:Nat),i<=m->(∃b,b<fuel/\(lpQ m (i,pt) b).1 ∉ Lo) ->
 ∃j n,SetTable.layClean.free m ow fuel i pt=some j/\j<=m/\j ∉ Lo/\(wayQ m (blkQ m i pt) n).j=j/\∀k,k<n->(wayQ m (blkQ m i pt) k).j∈Lo
 | 0,i,pt,_,⟨b,h,_⟩=>absurd h (Nat.not_lt_zero _)
 | fuel+1,i,pt,hi,⟨b,hb,hn⟩=>by
   have r1:=x7k hi
   have r2:=x7l m i
   have run:∀k,k<=SetTable.runEnd m i-i->(wayQ m (blkQ m i pt) k).j=i+k:=fun k hk=>by
    rw[y3t m k (blkQ m i pt) hk];rfl
   rw[show SetTable.layClean.free m ow (fuel+1) i pt=(match (List.range (SetTable.runEnd m i+1-i)).find? fun k=>(ow.getD (i+k) (some 0)).isNone with
    | some k=>some (i+k)
    | none=>SetTable.layClean.free m ow fuel (SetTable.leap m i pt).1 (SetTable.leap m i pt).2) from rfl]
   cases hf:(List.range (SetTable.runEnd m i+1-i)).find? fun k=>(ow.getD (i+k) (some 0)).isNone with
   | some k =>
     obtain⟨f1,f2,f3⟩:=List.find?_range_eq_some.mp hf
     have hk:k<SetTable.runEnd m i+1-i:=List.mem_range.mp f2
     refine⟨i+k,k,rfl,by lia,(ho _ (by lia)).mp f1,run k (by lia),fun q hq=>?_⟩
     rw[run q (by lia)]
     have:=f3 q hq
     by_cases z:i+q∈Lo
     ·exact z
     ·rw[(ho _ (by lia)).mpr z] at this;cases this
   | none =>
     have f:=List.find?_range_eq_none.mp hf
     have occ:∀q,q<=SetTable.runEnd m i-i->i+q∈Lo:=fun q hq=>by
      have:=f q (by lia)
      by_cases z:i+q∈Lo
      ·exact z
      ·rw[(ho _ (by lia)).mpr z] at this;cases this
     have hb0:b≠0:=fun z=>by
      subst z
      exact hn (occ 0 (Nat.zero_le _))
     obtain⟨b',rfl⟩:∃b',b=b'+1:=⟨b-1,by lia⟩
     obtain⟨j,n,e1,e2,e3,e4,e5⟩:=x4o ho fuel (SetTable.leap m i pt).1 (SetTable.leap m i pt).2 (y4s _ _ _) ⟨b',by lia,hn⟩
     have hw:∀n,wayQ m (blkQ m i pt) ((SetTable.runEnd m i-i+1)+n)=wayQ m (blkQ m (SetTable.leap m i pt).1 (SetTable.leap m i pt).2) n:=fun n=>by
      rw[z8n,show SetTable.runEnd m i-i+1=(blkQ m i pt).more+1 from rfl,y0u m _ rfl];rfl
     refine⟨j,(SetTable.runEnd m i-i+1)+n,e1,e2,e3,by rw[hw];exact e4,fun k hk=>?_⟩
     rcases Nat.lt_or_ge (SetTable.runEnd m i-i) k with w | w
     ·obtain⟨k',rfl⟩:∃k',k=(SetTable.runEnd m i-i+1)+k':=⟨k-(SetTable.runEnd m i-i+1),by lia⟩
      rw[hw];exact e5 k' (by lia)
     ·rw[run k w];exact occ k w
structure OwnQ (m:Nat) (ow:Array (Option Nat)) (done:List Int) (Lo:List Nat):Prop where
 sz:ow.size=m+1
 len:Lo.length=done.length
 le:∀j∈Lo,j<=m
 own:∀(j k:Nat),ow[j]? = some (some k)↔Lo[k]? = some j
 rch:∀(k j:Nat) (h:Int),Lo[k]? = some j->done[k]? = some h->RchQ m (fun j=>j∈Lo) h j
theorem OwnQ.occ{m:Nat}{ow:Array (Option Nat)}{done:List Int}{Lo:List Nat}(O:OwnQ m ow done Lo)(j:Nat)(hj:j<=m):(ow.getD j (some 0)).isNone=true↔j ∉ Lo:=by
 have hlt:j<ow.size:=by rw[O.sz];lia
 have hg:ow[j]? = some ow[j]:=Array.getElem?_eq_getElem hlt
 have hd:ow.getD j (some 0)=ow[j]:=by simp[Array.getD,hlt]
 rw[hd]
 cases hv:ow[j] with
 | none =>
   simp only[Option.isNone_none,true_iff]
   intro z
   obtain⟨k,hk⟩:=List.mem_iff_getElem?.mp z
   have:=(O.own j k).mpr hk
   rw[hg,hv] at this;cases this
 | some k =>
   simp only[Option.isNone_some,Bool.false_eq_true,false_iff,Classical.not_not]
   exact List.mem_of_getElem? ((O.own j k).mp (by rw[hg,hv]))
noncomputable abbrev x8z (m:Nat):Option (Array (Option Nat)×Nat)->Int->Option (Array (Option Nat)×Nat):=fun acc h=>do
 let __x <-acc
 match __x with
  | (y4k,k)=>do
    let j <-
     SetTable.layClean.free m y4k (SetTable.turns m) (SetTable.bits h%(m+1)) (SetTable.bits h)
    pure (y4k.setIfInBounds j (some k),k+1)
theorem OwnQ.step{m:Nat}(hm:m=7∨m=31):∀(rest done:List Int) {ow:Array (Option Nat)} {Lo:List Nat},OwnQ m ow done Lo->done.length+rest.length<=m ->
 ∃ow' Lo',rest.foldl (x8z m) (some (ow,done.length))=some (ow',(done++rest).length)/\OwnQ m ow' (done++rest) Lo'
 | [],done,ow,Lo,O,_=>⟨ow,Lo,by rw[List.append_nil];rfl,by rw[List.append_nil];exact O⟩
 | h::rest,done,ow,Lo,O,hl=>by
   rw[List.length_cons] at hl
   obtain⟨e,he,hn⟩:=y4f (m+1) Lo (by rw[O.len];lia)
   have g:=y7p m h
   obtain⟨b,hb,eb⟩:=cov1 hm g.i g.pt (j:=e) (by lia)
   obtain⟨j,n,f1,f2,f3,f4,f5⟩:=x4o O.occ (SetTable.turns m) (SetTable.bits h%(m+1)) (SetTable.bits h) g.i ⟨b,by unfold SetTable.turns;lia,by rw[show lpQ m (SetTable.bits h%(m+1),SetTable.bits h) b=lpQ m ((blkQ m (SetTable.bits h%(m+1)) (SetTable.bits h)).i,(blkQ m (SetTable.bits h%(m+1)) (SetTable.bits h)).perturb) b from rfl,eb];exact hn⟩
   have hj:j<ow.size:=by rw[O.sz];lia
   have O':OwnQ m (ow.setIfInBounds j (some done.length)) (done++[h]) (Lo++[j]):=by
    refine⟨by rw[Array.size_setIfInBounds];exact O.sz,by rw[List.length_append,List.length_append,O.len];rfl,fun q hq=>?_,fun q k=>?_,fun k q h' hk hd=>?_⟩
    ·rcases List.mem_append.mp hq with z | z
     ·exact O.le q z
     ·rw[List.mem_singleton.mp z];exact f2
    ·rw[Array.getElem?_setIfInBounds]
     by_cases z:j=q
     ·subst z
      rw[if_pos rfl,if_pos hj]
      constructor
      ·intro w
       have w':done.length=k:=by simpa using w
       rw[<-w',<-O.len,List.getElem?_append_right (Nat.le_refl _),Nat.sub_self];rfl
      ·intro w
       rcases Nat.lt_or_ge k Lo.length with y | y
       ·rw[List.getElem?_append_left y] at w
        exact absurd (List.mem_of_getElem? w) f3
       ·have:k<(Lo++[j]).length:=(List.getElem?_eq_some_iff.mp w).1
        rw[List.length_append,List.length_singleton] at this
        have:k=done.length:=by have:=O.len;lia
        rw[this]
     ·rw[if_neg z,O.own q k]
      rcases Nat.lt_or_ge k Lo.length with y | y
      ·rw[List.getElem?_append_left y]
      ·rw[List.getElem?_eq_none y,List.getElem?_append_right y]
       constructor
       ·intro w;cases w
       ·intro w
        cases hk:k-Lo.length with
        | zero=>rw[hk] at w;exact absurd (by simpa using w) z
        | succ r=>rw[hk] at w;simp at w
    ·have mono:∀a,a∈Lo->a∈Lo++[j]:=fun a ha=>List.mem_append_left _ ha
     rcases Nat.lt_or_ge k Lo.length with y | y
     ·rw[List.getElem?_append_left y] at hk
      rw[List.getElem?_append_left (by rw[<-O.len];exact y)] at hd
      exact(O.rch k q h' hk hd).mono mono
     ·rw[List.getElem?_append_right y] at hk
      rw[List.getElem?_append_right (by rw[<-O.len];exact y)] at hd
      cases hz:k-Lo.length with
      | zero =>
        rw[hz] at hk
        rw[show k-done.length=0 by have:=O.len;lia] at hd
        simp only[List.getElem?_cons_zero,Option.some.injEq] at hk hd
        subst hk hd
        exact RchQ.mono ⟨n,f4,f5⟩ mono
      | succ r=>rw[hz] at hk;simp at hk
   obtain⟨ow',Lo',r1,r2⟩:=OwnQ.step hm rest (done++[h]) O' (by rw[List.length_append,List.length_singleton];lia)
   refine⟨ow',Lo',?_,by rw[List.append_assoc] at r2;exact r2⟩
   rw[List.append_assoc] at r1
   rw[<-show done++([h]++rest)=done++h::rest from rfl,<-r1,List.foldl_cons]
   congr 1
   show(SetTable.layClean.free m ow (SetTable.turns m) (SetTable.bits h%(m+1)) (SetTable.bits h)>>=fun j=>pure (ow.setIfInBounds j (some done.length),done.length+1))=_
   rw[f1,List.length_append,List.length_singleton]
   rfl
section
variable {prog:Program}{w:World}{A:Around}{E:Value->Shared->Prop}{s:Shared}
noncomputable abbrev TKey (prog:Program) (w:World) (h:Heap) (k:List Int) (b:Addr):Prop:=IsTupleKey (intKind prog w) h k b
end
section
variable {prog:Program}{w:World}{A:Around}{E:Value->Shared->Prop}{s:Shared}
noncomputable def SetT(prog:Program)(w:World)(N0:Nat)(h:Heap)(a:Addr)(ks:List (List Int)):Prop :=
 ∃(o:Obj) (es:Array (Int×Value)) (ep:Nat) (t:SetTable) (L:List (Nat×Int×Value)),(h.get? a=some o/\o.ExactSet/\o.data = .set es ep t)/\es.toList=L.map (·.2)/\TabS t L/\L.length*5<t.mask*3 /\
  (∀q∈L,∃k b,q.2.2 = .ref b/\b<N0/\TKey prog w h k b/\q.2.1=tupleKeyHash (intKind prog w) k/\k∈ks)/\(∀k∈ks,∃q∈L,∃b,q.2.2 = .ref b/\TKey prog w h k b)/\L.length=ks.length
theorem TKey.atQ{h h':Heap}{k:List Int}{b:Addr}(x:TKey prog w h k b)(e:∀o,h.get? b=some o->h'.get? b=some o):TKey prog w h' k b :=
 let ⟨o,i,n,ho,r⟩:=x;⟨o,i,n,e o ho,r⟩
theorem SetT.atQ{N0:Nat}{h h':Heap}{a:Addr}{ks:List (List Int)}(x:SetT prog w N0 h a ks)(e:∀b o,b<N0∨b=a->h.get? b=some o->h'.get? b=some o):SetT prog w N0 h' a ks:=by
 obtain⟨o,es,ep,t,L,⟨q1,q2,q3⟩,he,T,hf,c1,c2,c3⟩:=x
 have hb:∀q∈L,∀b,q.2.2 = .ref b->b<N0:=fun q hq b hb=>by
  obtain⟨k,b',e1,e2,_⟩:=c1 q hq
  rw[hb] at e1;cases e1;exact e2
 refine⟨o,es,ep,t,L,⟨e a o (.inr rfl) q1,q2,q3⟩,he,T,hf,fun q hq=>?_,fun k hk=>?_,c3⟩
 ·obtain⟨k,b,e1,e2,e3,e4⟩:=c1 q hq
  exact⟨k,b,e1,e2,TKey.atQ e3 fun o ho=>e b o (.inl e2) ho,e4⟩
 ·obtain⟨q,hq,b,e1,e2⟩:=c2 k hk
  exact⟨q,hq,b,e1,TKey.atQ e2 fun o ho=>e b o (.inl (hb q hq b e1)) ho⟩
end
section
variable {prog:Program}{w:World}{A:Around}{E:Value->Shared->Prop}{s:Shared}
end
section
variable {X:Cx}{e a b c:Expr}{g ga gb gc:G->R D}{pos pos' p p2:Pos}
end
section
variable {X:Cx}{e a b c:Expr}{g ga gb gc:G->R D}{pos pos' p p2:Pos}
theorem y0q:z7o X (.type "str") dStr:=by
 refine⟨_,y3j (X:=X.nox),fun H xs ds i hg=>?_⟩
 unfold dStr at hg
 split at hg
 ·rename_i n
  obtain⟨v,rfl,h⟩:=z4t i
  obtain⟨hz,e⟩:=R.guard_ne hg
  cases Is.int_iff.mp h
  exact⟨n,rfl,hz,.str (toString n),e,.refl _,Is.str_iff.mpr rfl⟩
 ·exact absurd rfl hg
theorem x1a:z7o X (.builtin "len") x0v:=by
 refine⟨_,x3h (X:=X.nox),fun H xs ds i hg=>?_⟩
 unfold x0v at hg
 split at hg
 ·rename_i x
  obtain⟨v,rfl,h⟩:=z4t i
  obtain⟨hz,e⟩:=R.guard_ne hg
  cases Is.str_iff.mp h
  exact⟨.str x,x.length,rfl,⟨by rw[sizeLine_eq];lia,rfl⟩,.int x.length,e,.refl _,Is.int_iff.mpr rfl⟩
 ·exact absurd rfl hg
theorem y4m:OpD X (binaryOp .Add) y5c:=by
 refine⟨_,y7i (X:=X.nox),fun H x y dx dy ix iy hg=>?_⟩
 unfold y5c at hg
 split at hg
 ·rename_i i j
  obtain⟨hz,e⟩:=R.guard_ne hg
  exact⟨i,j,Is.str_iff.mp ix,Is.str_iff.mp iy,by rw[sizeLine_eq];lia,.str (i++j),e,.refl _,Is.str_iff.mpr rfl⟩
 ·exact absurd rfl hg
theorem x8a:OpD X (compareOp .In) dInS:=by
 refine⟨_,y9g (X:=X.nox),fun H x y dx dy ix iy hg=>?_⟩
 unfold dInS at hg
 split at hg
 ·rename_i i j
  exact⟨i,j,Is.str_iff.mp ix,Is.str_iff.mp iy,.bl (inS i j),rfl,.refl _,Is.bl_iff.mpr rfl⟩
 ·exact absurd rfl hg
theorem x4b(ha:PD X a ga)(hb:PD X b gb)(hs:y5i b:=by intro _ _;rfl):PD X (.Subscript a b pos) (gBin dIxS ga gb):=by
 refine⟨fun pins s σ H F Γ I fo rl hg=>?_⟩
 refine Subscript_ (wpAny_mono (ha.run pins s σ H F Γ I fo rl (R.left hg)) (fun v s1 ⟨dx,x,H1,e1,I1,r1,S1,i1⟩=>?_) fun _ _ x=>x.bind _)
 have hg1:=R.next hg e1
 refine wpAny_mono (hb.run pins s1 σ H1 F Γ I1 (fo.same S1) (rl.same S1) (R.left hg1)) (fun u s2 ⟨dy,y,H2,e2,I2,r2,S2,i2⟩=>?_) fun _ _ x=>z1a.later e1 S1 (x.bind _)
 have hg2:=R.next hg1 e2
 have i1':=i1.same S2
 cases dx with
 | str z =>
   cases dy with
   | int i =>
     obtain⟨hz,e5⟩:=R.guard_ne (show R.guard (z.length<=100000) (match atI z.cps.toList i with | some c=>R.ok (D.str ⟨#[c]⟩) | none=>R.no) ≠ .no from hg2)
     cases q:atI z.cps.toList i with
     | none=>exact absurd (show dIxS (.str z) (.int i) = .no from e5.trans (by rw[q])) hg2
     | some c =>
       cases Is.str_iff.mp i1'
       exact wpAny_mono (x8q (X:=X.nox) a b pins s2 σ H2 _ y v u (fun z' H'=>z' = .str ⟨#[c]⟩/\H'=H2) (I2.wish _) r1 r2 ⟨z,i,c,rfl,Is.int_iff.mp i2,by rw[sizeLine_eq];lia,q,rfl,rfl⟩ (hs _ _)) (fun w' s' ⟨z',H',I',rz,ez,eH⟩=>by
        subst ez eH
        exact Post.bind e1 S1 (Post.bind e2 S2 ⟨.str ⟨#[c]⟩,.str ⟨#[c]⟩,H',e5.trans (by rw[q]),I'.unwish,rz,.refl _,Is.str_iff.mpr rfl⟩)) fun _ _ z=>False.elim z
   | _=>exact absurd rfl hg2
 | _=>exact absurd rfl hg2
theorem z6k{K:PySem.W.Frag}{H:Hp}:∀{xs:List Str} {vs:List V} {its:List Value},IsAll K H (xs.map D.str) vs->Vals vs its->∃l:List (Str×Tok),its=strValues l/\l.map (·.1)=xs
 | [],vs,its,h,r=>by
   cases IsAll.nil_iff.mp h
   cases r
   exact⟨[],rfl,rfl⟩
 | x::xs,vs,its,h,r=>by
   obtain⟨v,vs',rfl,h1,h2⟩:=IsAll.cons_iff.mp h
   cases Is.str_iff.mp h1
   cases r with
   | cons r1 r2 =>
     obtain⟨t,rfl⟩:=r1
     obtain⟨l,rfl,rfl⟩:=z6k h2 r2
     exact⟨(x,t)::l,rfl,rfl⟩
theorem y1r:∀(l:List (Str×Tok)),Vals ((l.map (·.1)).map V.str) (strValues l)
 | []=>.nil
 | (x,t)::l=>.cons ⟨t,rfl⟩ (y1r l)
theorem y0m{K:PySem.W.Frag}{H:Hp}:∀(xs:List Str),IsAll K H (xs.map D.str) (xs.map V.str)
 | []=>IsAll.nil
 | x::xs=>IsAll.cons (Is.str_iff.mpr rfl) (y0m xs)
theorem z8v{sep:Str}{j}{cp apos cpos:Pos}(he:PD X e g)
 (hbase:attributeBase (.Constant (.str sep) j cp) "join" X.env (eval (.Constant (.str sep) j cp) X.env)=eval (.Constant (.str sep) j cp) X.env:=by rfl)
 (hfew:((backTo cpos (starEach [e] X.env)).all (fun x=>!x.1)&&(backToKw cpos (keywordEach [] X.env)).all (fun x=>x.1.isSome)
   && decide ([e].length+([]:List Keyword).length+(if ([]:List Keyword).isEmpty then 0 else 1)<30))=true:=by rfl)
 (hline:(apos.endLine==cpos.line)=true:=by rfl) (hs:starEach [e] X.env=(false,eval e X.env)::starEach [] X.env:=by rfl) :
 PD X (.Call (.Attribute (.Constant (.str sep) j cp) "join" apos) [e] [] cpos) (y0b sep g):=by
 refine⟨fun pins s σ H F Γ I fo rl hg=>?_⟩
 refine wpAny_Call_method_late hbase hfew hline rfl (Calls.Constant_str ?_)
 refine⟨"str",_,PySem.F.plainAttrs_str,PySem.F.slot_str_join,PySem.F.type_str_join,typeIs_str _ _ _,(fun _ e=>nomatch e),?_⟩
 rw[hs]
 refine Calls.callWith_builtin rfl (Calls.evalArgs_plain ?_)
 show wpAny _ _ (spliced ((false,eval e X.env)::backTo cpos [])) _ _ _
 refine Calls.spliced_cons (wpAny_mono (he.run pins _ σ H F Γ (I.tok _) fo rl (R.left hg)) (fun u s2 ⟨d,y,H2,e2,I2,r2,S2,i2⟩=>Calls.spliced_nil ?_) fun _ _ x=>x.bind _)
 have hg2:=R.next hg e2
 cases d with
 | lst ds =>
   cases q:strs? ds with
   | none=>exact absurd (show(match strs? ds with | some xs=>R.guard (JoinOk sep xs=true) (R.ok (D.str (Txt.join sep xs))) | none=>R.no) = .no by rw[q]) hg2
   | some xs =>
     have hg3:R.guard (JoinOk sep xs=true) (R.ok (D.str (Txt.join sep xs))) ≠ .no:=by
      have h:=hg2
      dsimp only at h
      rw[q] at h;exact h
     obtain⟨hok,e3⟩:=R.guard_ne hg3
     obtain rfl:=strs?_some q
     obtain⟨l,vs,rfl,h1,h2⟩:=Is.lst_iff.mp i2
     cases (show u=Value.ref l from r2)
     obtain⟨its,rv,pl,hz⟩:=I2.list h1
     obtain⟨lt,rfl,hlt⟩:=z6k h2 rv
     refine SC.join pl.isList hlt hok fun t' k=>?_
     refine Post.bind e2 S2 ⟨.str (Txt.join sep xs),.str (Txt.join sep xs),H2,?_,I2.tok _,⟨t',rfl⟩,.refl _,Is.str_iff.mpr rfl⟩
     show(match strs? (xs.map D.str) with | some xs=>R.guard (JoinOk sep xs=true) (R.ok (D.str (Txt.join sep xs))) | none=>R.no)=_
     rw[q];exact e3
 | _=>exact absurd rfl hg2
theorem y6v{prog:Program}{w:World}{A:Around}{E:Value->Shared->Prop}{s:Shared}{x y:Str}{t u:Tok}{Q:Value->Shared->Prop}(hy:(y.length==0)=false)
 (hq:∀(l:List (Str×Tok)) (k:Nat),l.map (·.1)=Txt.split x y->Q (.ref s.heap.objs.size) { s with toks:=k,heap:=s.heap.push { cls:=.type "list",data:=.seq (strValues l).toArray } })
 (hsz:x.length<=sizeLine) (hsz2:(Builtin.Str.partsBetween x (Builtin.Str.occurrences x y 0 x.length (x.length+1)) y.length).length<=sizeLine) :
 wpAny (model prog w) A (call (.builtin "str.split") [.str x t,.str y u]) Q E s:=by
 cases h1:(decide (x.length<y.length)||decide (Builtin.Str.strKind x<Builtin.Str.strKind y))
 ·cases hf:(Builtin.Str.occurrences x y 0 x.length (x.length+1)).isEmpty
  ·refine call_meets PySem.F.slot_str_split (typeIs_str _ _ _) PySem.F.entry_str_split (PySem.F.args_str_split_2 _ _) (meets_str_split_sep x y t u h1 hy hf hsz hsz2) ?_
   show wants Q E _ { s with toks:=_,heap:=s.heap.push { cls:=.type "list",data:=.seq (strsFrom s.toks (Builtin.Str.partsBetween x (Builtin.Str.occurrences x y 0 x.length (x.length+1)) y.length)).toArray } }
   rw[strsFrom_eq]
   exact hq (numbered s.toks _) _ ((numbered_texts _ _).trans ((if_neg (ne_true_of_eq_false h1)).trans (if_neg (ne_true_of_eq_false hf))).symm)
  ·exact call_meets PySem.F.slot_str_split (typeIs_str _ _ _) PySem.F.entry_str_split (PySem.F.args_str_split_2 _ _) (meets_str_split_not_found x y t u h1 hy hf)
    (hq [(x,t)] _ ((if_neg (ne_true_of_eq_false h1)).trans (if_pos hf)).symm)
 ·exact call_meets PySem.F.slot_str_split (typeIs_str _ _ _) PySem.F.entry_str_split (PySem.F.args_str_split_2 _ _) (meets_str_split_cannot_occur x y t u h1)
   (hq [(x,t)] _ (if_pos h1).symm)
theorem y5t{sep:Str}{j}{cp apos cpos:Pos}(he:PD X e g)
 (hbase:attributeBase e "split" X.env (eval e X.env)=eval e X.env:=by rfl)
 (hfew:((backTo cpos (starEach [.Constant (.str sep) j cp] X.env)).all (fun x=>!x.1)&&(backToKw cpos (keywordEach [] X.env)).all (fun x=>x.1.isSome)
   && decide ([Expr.Constant (.str sep) j cp].length+([]:List Keyword).length+(if ([]:List Keyword).isEmpty then 0 else 1)<30))=true:=by rfl)
 (hline:(apos.endLine==cpos.line)=true:=by rfl) (hs:starEach [.Constant (.str sep) j cp] X.env=(false,eval (.Constant (.str sep) j cp) X.env)::starEach [] X.env:=by rfl) :
 PF X (.Call (.Attribute e "split" apos) [.Constant (.str sep) j cp] [] cpos) (y2t sep g):=by
 refine⟨fun pins s σ H F Γ I fo rl hg=>?_⟩
 refine wpAny_Call_method_late hbase hfew hline rfl (wpAny_mono (he.run pins s σ H F Γ I fo rl (R.left hg)) (fun v s1 ⟨dl,vl,H1,e1,I1,r1,S1,i1⟩=>?_) fun _ _ x=>x.bind _)
 have hg1:=R.next hg e1
 cases dl with
 | str x =>
   obtain⟨⟨hx,hy⟩,e3⟩:=R.guard_ne (show R.guard (x.length<=100000/\(sep.length==0)=false) (R.ok ((Txt.split x sep).map D.str)) ≠ .no from hg1)
   cases Is.str_iff.mp i1
   obtain⟨t,rfl⟩:=r1
   refine⟨"str",_,PySem.F.plainAttrs_str,PySem.F.slot_str_split,PySem.F.type_str_split,typeIs_str _ _ _,(fun _ e=>nomatch e),?_⟩
   rw[hs]
   refine Calls.callWith_builtin rfl (Calls.evalArgs_plain ?_)
   show wpAny _ _ (spliced ((false,eval (.Constant (.str sep) j cp) X.env)::backTo cpos [])) _ _ s1
   refine Calls.spliced_cons (Calls.Constant_str (Calls.spliced_nil ?_))
   have hy1:1<=sep.length:=by
    have:sep.length≠0:=by simpa using hy
    lia
   have hw:=split_weight x sep hy1
   have hsl:=sizeLine_eq
   refine y6v (s:={ s1 with toks:=s1.toks+1 }) hy (fun lt k hlt=>?_) (by lia) (by rw[length_partsBetween];have:=StrLaws.occ_length_le x sep 0 x.length (x.length+1);lia)
   have hll:lt.length=(Txt.split x sep).length:=by rw[<-hlt,List.length_map]
   have hsz:s1.heap.objs.size<=s1.heap.objs.size:=Nat.le_refl _
   have hfr:H1 s1.heap.objs.size=none:=I1.hok.fresh hsz
   have kp:∀b u,s1.heap.get? b=some u->(s1.heap.push { cls:=.type "list",data:=.seq (strValues lt).toArray }).get? b=some u:=fun b u h=>Heap.get?_push_of_some _ h
   have I2:Inv X pins σ (upd H1 s1.heap.objs.size (.lst ((lt.map (·.1)).map V.str))) { s1 with toks:=k,heap:=s1.heap.push { cls:=.type "list",data:=.seq (strValues lt).toArray } } :=
    I1.laid (t':=k) kp hsz (show z4x X.prog X.w _ _ _ (.lst ((lt.map (·.1)).map V.str)) from⟨by rw[List.length_map,List.length_map,hll];lia,strValues lt,_,y1r lt,Heap.get?_push_size _ rfl⟩)
   have S2:=z1h hfr (.lst ((lt.map (·.1)).map V.str))
   refine⟨(Txt.split x sep).map D.str,s1.heap.objs.size,(lt.map (·.1)).map V.str,_,(R.step e1 _).trans e3,I2,rfl,S1.trans S2,S1.free hfr,z0l,?_⟩
   rw[<-hlt]
   exact y0m _
 | _=>exact absurd rfl hg1
end
noncomputable def Itx(x:Str):It:=⟨fun i _=>i<x.cps.size,fun i H v H'=>H'=H/\∃c,x.cps[i]? = some c/\v = .str ⟨#[c]⟩,fun i _=>x.cps.size<=i⟩
theorem y8b{P:Program}{w:World}{K:PySem.W.Frag}{tg:Expr}{n:String}(hn:n="str_ascii_iterator"∨n="str_iterator")(it:Addr)(x:Str)(t:Tok):Turn P w K tg (Itx x) [it] it (fun i h=>h.IsStrIter it n x t i):=by
 have W:∀(A:Around),A.handled=none->Walks P w A it [it] [it] x.cps.size (SignAt x) (fun i h=>h.IsStrIter it n x t i):=fun A hA=>by
  rcases hn with rfl | rfl
  ·exact Walks.strAscii hA it x t
  ·exact Walks.strWide hA it x t
 exact {
  mem:=by simp
  obj:=fun i h st b hb=>by
   have e:b=it:=by simpa using hb
   subst e
   obtain⟨o,e,c,d⟩:=st
   exact⟨o,e,fun v z=>by rw[d] at z;cases z⟩
  keep:=fun i h h' st k=>let ⟨o,ho,r⟩:=st;⟨o,k it (by simp) o ho,r⟩
  item:=by
   intro X hP hw hK hc i pins s σ H E I hf st hg
   subst hP hw hK
   obtain⟨f0,f1,f2,f3,f4,f5⟩:=hf it (by simp)
   refine(W X.A (I.ok.hd hc)).item i s _ _ hg st fun v h' tk hv st' kk=>?_
   obtain⟨c,u,hcc,rfl⟩:=hv
   have I1:Inv X pins σ H { s with heap:=h',toks:=tk }:=I.turned (fun b o hb e=>kk b o (by simpa using hb) e) f0 f1 f3 f4 f5
   obtain⟨o,e,c',d⟩:=id st'
   exact⟨_,rfl,x0i (s:={ s with heap:=h',toks:=tk }) e c' d (by rcases hn with rfl | rfl<;>decide) ⟨.str ⟨#[c]⟩,H,I1,⟨u,rfl⟩,⟨rfl,c,hcc,rfl⟩,st',fun b hb=>(hf b hb).1⟩⟩
  done:=by
   intro X hP hw hK hc i pins s σ H E I hf st hg
   subst hP hw hK
   obtain⟨f0,f1,f2,f3,f4,f5⟩:=hf it (by simp)
   have hx:x.cps[i]? = none:=Array.getElem?_eq_none hg
   rcases hn with rfl | rfl
   ·exact wpAny_pyNext_ascii_end (I.ok.hd hc) st hx fun h' eb=>⟨rfl,I.turned (t':=s.toks) (fun b o hb e=>eb b o hb e) f0 f1 f3 f4 f5⟩
   ·exact wpAny_pyNext_wide_end (I.ok.hd hc) st hx fun h' eb=>⟨rfl,I.turned (t':=s.toks) (fun b o hb e=>eb b o hb e) f0 f1 f3 f4 f5⟩
  self:=fun A i s Q E st h=>by
   rcases hn with rfl | rfl
   ·exact wpAny_pyIter_striter_ascii st h
   ·exact wpAny_pyIter_striter_wide st h }
theorem x6n{K:PySem.W.Frag}{H:Hp}{F:List Addr}(x:Str):JC K H F (Itx x) (z4z x):=fun H1 S=>by
 have hl:(z4z x).length=x.cps.size:=by unfold z4z;simp
 rw[hl]
 refine⟨fun j hj=>⟨hj,fun v H2 y=>⟨y.1,?_⟩⟩,Nat.le_refl _⟩
 obtain⟨_,c,hc,rfl⟩:=y
 refine⟨.str ⟨#[c]⟩,?_,Is.str_iff.mpr rfl⟩
 unfold z4z
 rw[List.getElem?_map,Array.getElem?_toList,hc];rfl
section
variable {X:Cx}{tg a:Expr}{ga:G->R D}
theorem x2c(ha:PD X a ga):PIC X tg a (y0n ga):=by
 refine⟨fun pins s σ H F Γ I fo rl hg=>?_⟩
 refine wpAny_mono (ha.run pins s σ H F Γ I fo rl (R.left hg)) (fun v s1 ⟨d,x,H1,e1,I1,r1,S1,i1⟩=>?_) fun _ _ x=>x.bind _
 have hg1:=R.next hg e1
 cases d with
 | str z =>
   obtain⟨hz,e2⟩:=R.guard_ne (show R.guard (z.length<=100000) (.ok (z4z z)) ≠ .no from hg1)
   cases Is.str_iff.mp i1
   obtain⟨t,rfl⟩:=r1
   have fin:∀(n:String) (o:Obj),(n="str_ascii_iterator"∨n="str_iterator")->(s1.heap.push o).IsStrIter s1.heap.objs.size n z t 0->∃(ds:List D) (it:Addr) (fp:List Addr) (tn:Nat->Heap->Prop) (J:It) (H':Hp),y0n ga Γ = .ok ds/\Value.ref s1.heap.objs.size = .ref it/\Inv X pins σ H' { s1 with heap:=s1.heap.push o }/\Same H H' /\
    Turn X.prog X.w X.K tg J fp it tn/\tn 0 (s1.heap.push o)/\(∀b∈fp,FpOk X pins H' b)/\JC X.K H' F J ds:=fun n o hn st =>
    ⟨z4z z,s1.heap.objs.size,_,_,_,H1,(R.step e1 _).trans e2,rfl,I1.kept (t':=s1.toks) fun b o e=>Heap.get?_push_of_some _ e,S1,y8b hn _ z t,st,fun b hb=>by
      have e:b=s1.heap.objs.size:=by simpa using hb
      subst e
      exact I1.fpOk (Nat.le_refl _) (I1.hok.fresh (Nat.le_refl _)),x6n z⟩
   cases hq:z.cps.all (·<128)
   ·exact wpAny_pyIter_wide hq (fin _ _ (.inr rfl) ⟨_,Heap.get?_push_size _ rfl,rfl,rfl⟩)
   ·exact wpAny_pyIter_ascii hq (fin _ _ (.inl rfl) ⟨_,Heap.get?_push_size _ rfl,rfl,rfl⟩)
 | _=>exact absurd rfl hg1
end
noncomputable def But(l:Addr)(H H':Hp):Prop:=∀b o,b≠l->H b=some o->H' b=some o
noncomputable def spM(K:PySem.W.Frag)(i:Nat)(φ:List D->R (D×List D)):Sp:=fun vs H Q E=>∃as bs xs ys ws l zs,vs=xs ++ .ref l::ys/\as.length=i/\IsAll K (hid [l] H) as xs/\IsAll K (hid [l] H) bs ys/\H l=some (.lst zs)/\IsAll K (hid [l] H) ws zs /\
 φ (as ++ .lst ws::bs) ≠ .no/\(∀c,φ (as ++ .lst ws::bs) ≠ .er c)/\∀d ws' v H' zs',φ (as ++ .lst ws::bs) = .ok (d,ws')->But l H H'->H' l=some (.lst zs')->IsAll K (hid [l] H') ws' zs'->Is K (hid [l] H') d v->Q v H'
structure FnM (P:Program) (w:World) (K:PySem.W.Frag) (mg:Str->Option Value) (base:Heap) (k:Nat) (f:Addr) (fd:FuncData) (ps:List Str) (i:Nat) (φ:List D->R (D×List D)):Prop where
 ok:FnOk P w K mg base (CXE P w) k f fd ps (spM K i φ)
 binds:z6h K fd ps []
 kp:PySem.W.keepIn K (.ref f)=true
theorem FnM.mono{P:Program}{w:World}{K:PySem.W.Frag}{mg:Str->Option Value}{base:Heap}{j k:Nat}{f:Addr}{fd:FuncData}{ps:List Str}{i:Nat}{φ:List D->R (D×List D)}(F:FnM P w K mg base j f fd ps i φ)(h:j<=k):FnM P w K mg base k f fd ps i φ:=⟨F.ok.mono h,F.binds,F.kp⟩
section
variable {X:Cx}{e:Expr}{es:List Expr}{g:G->R D}{gs:G->R (List D)}{pos p:Pos}{x:Str}
structure PAM (X:Cx) (i w:Nat) (es:List Expr) (g:G->R (List D)):Prop where
 run:∀(pos:Pos) (pins:List (Addr×Obj)) (s:Shared) (σ:St) (H:Hp) (F:List Addr) (Γ:G),Inv X pins σ H s->FOk H F->Rel X.K H F Γ σ->g Γ ≠ .no ->
  wpAny (model X.prog X.w) X.A (spliced (backTo pos (starEach es X.env))) (fun us s'=>∃as bs xs ys ws l H',g Γ = .ok (as ++ .lst ws::bs)/\Inv X pins σ H' s'/\Vals (xs ++ .ref l::ys) us/\Same H H'/\as.length=i/\Γ[w]? = some (.own ws)/\σ[w]? = some (some (.ref l)) /\
   IsAll X.K (hid F H') as xs/\IsAll X.K (hid F H') bs ys) (z1a X pins σ H (g Γ)) s
theorem z3a{i w:Nat}(ha:PDr X e g)(hr:PAM X i w es gs)(hs:starEach (e::es) X.env=(false,eval e X.env)::starEach es X.env:=by rfl):PAM X (i+1) w (e::es) (gCons g gs):=by
 refine⟨fun pos pins s σ H F Γ I fo rl hg=>?_⟩
 rw[hs]
 show wpAny _ _ (spliced ((false,eval e X.env)::backTo pos (starEach es X.env))) _ _ s
 refine Calls.spliced_cons (wpAny_mono (ha.run pins s σ H F Γ I fo rl (R.left hg)) (fun u s1 ⟨d,x,H1,e1,I1,r1,S1,i1⟩=>?_) fun _ _ x=>x.bind _)
 have hg1:=R.next hg e1
 refine wpAny_mono (hr.run pos pins s1 σ H1 F Γ I1 (fo.same S1) (rl.same S1) (R.left hg1)) (fun us s2 ⟨as,bs,xs,ys,ws,l,H2,e2,I2,r2,S2,hl,hw,hσ,j1,j2⟩=>?_) fun _ _ x=>z1a.later e1 S1 (x.bind _)
 refine⟨d::as,bs,x::xs,ys,ws,l,H2,?_,I2,.cons r1 r2,S1.trans S2,by rw[List.length_cons,hl],hw,hσ,IsAll.cons (i1.same (z2b S2)) j1,j2⟩
 exact(R.step e1 _).trans ((R.step e2 _))
theorem z2k(w:Nat)(hN:X.N[w]? = some x)(hr:PADr X es gs)(hv:Vis X.env.scope x:=by first | exact Or.inl rfl | exact Or.inr (Or.inl rfl) | exact Or.inr (Or.inr rfl))(hd:(x==("__debug__":Str))=false:=by decide)(hcd:(x==("__classdict__":Str))=false:=by decide)
 (hs:starEach (.Name x p::es) X.env=(false,eval (.Name x p) X.env)::starEach es X.env:=by rfl):PAM X 0 w (.Name x p::es) (z5q w gs):=by
 show PAM X 0 w (.Name x p::es) (fun Γ=>match Γ[w]? with | some (.own ws)=>gs Γ>>=fun bs=>.ok (.lst ws::bs) | _=>.no)
 refine⟨fun pos pins s σ H F Γ I fo rl hg=>?_⟩
 cases hw:Γ[w]? with
 | none=>rw[hw] at hg;exact absurd rfl hg
 | some en =>
   cases en with
   | no=>rw[hw] at hg;exact absurd rfl hg
   | ro d=>rw[hw] at hg;exact absurd rfl hg
   | own ws =>
     rw[hw] at hg
     dsimp only at hg ⊢
     obtain⟨l,zs,hσ,hF,hH,hia⟩:=rl.own w ws hw
     rw[hs]
     show wpAny _ _ (spliced ((false,eval (.Name x p) X.env)::backTo pos (starEach es X.env))) _ _ s
     refine Calls.spliced_cons (wpAny_mono (z7r (X:=X.nox) hN hv hd hcd pins s σ H (fun v' H'=>v' = .ref l/\H'=H) (I.wish _) ⟨.ref l,hσ,rfl,rfl⟩) (fun u s1 ⟨v',H',I',r,e1,e2⟩=>?_) fun _ _ z=>False.elim z)
     subst e1 e2
     refine wpAny_mono (hr.run pos pins s1 σ H' F Γ I'.unwish fo rl (R.left hg)) (fun us s2 ⟨bs,ys,H2,e2,I2,r2,S2,j2⟩=>?_) fun _ _ x=>x.bind _
     exact⟨[],bs,[],ys,ws,l,H2,R.step e2 _,I2,.cons r r2,S2,rfl,by first | exact hw | rfl,hσ,IsAll.nil,j2⟩
noncomputable def x8x(X:Cx)(w:Nat)(pins:List (Addr×Obj))(σ:St)(H:Hp)(F:List Addr)(Γ:G)(r:R (D×List D))(u:Value)(s':Shared):Prop :=
 ∃d ws v H',r = .ok (d,ws)/\Inv X pins σ H' s'/\RelV v u/\FOk H' F/\Rel X.K H' F (Γ.set w (.own ws)) σ/\Ext H F H' F/\Is X.K (hid F H') d v/\w<Γ.length
structure PEM (X:Cx) (w:Nat) (e:Expr) (g:G->R (D×List D)):Prop where
 run:∀(pins:List (Addr×Obj)) (s:Shared) (σ:St) (H:Hp) (F:List Addr) (Γ:G),Inv X pins σ H s->FOk H F->Rel X.K H F Γ σ->g Γ ≠ .no ->
  wpAny (model X.prog X.w) X.A (eval e X.env) (x8x X w pins σ H F Γ (g Γ)) (fun _ _=>False) s
theorem runM{k:Nat}{f:Addr}{fd:FuncData}{ps:List Str}{i:Nat}{φ:List D->R (D×List D)}(Fn:FnM X.prog X.w X.K X.mg X.base k f fd ps i φ)(hr:Room k X.A){pins:List (Addr×Obj)}{σ:St}{H:Hp}{F:List Addr}{s:Shared}{us:List Value}{as bs ws ws':List D}{xs ys:List V}{l:Addr}{zs:List V}{d:D}{EE:Value->Shared->Prop}
 (I:Inv X pins σ H s) (fo:FOk H F) (r:Vals (xs ++ .ref l::ys) us) (hi:as.length=i) (j1:IsAll X.K (hid F H) as xs) (j2:IsAll X.K (hid F H) bs ys) (hF:l∈F) (hH:H l=some (.lst zs)) (j3:IsAll X.K (hid F H) ws zs) (hg:φ (as ++ .lst ws::bs) = .ok (d,ws')) :
 wpAny (model X.prog X.w) X.A (call (.ref f) us) (fun u s'=>∃v H' zs',Inv X pins σ H' s'/\RelV v u/\But l H H'/\H' l=some (.lst zs')/\IsAll X.K (hid F H') ws' zs'/\Is X.K (hid F H') d v) EE s:=by
 let F0:=F.filter (·≠l)
 have m0:∀{b},b∈F0↔b∈F/\b≠l:=fun {b}=>by simp[F0]
 have lF0:l ∉ F0:=fun z=>(m0.mp z).2 rfl
 have fo0:FOk H F0:=fun b hb=>fo b (m0.mp hb).1
 have sub:Same (hid F H) (hid [l] (hid F0 H)):=fun b o h=>by
  obtain⟨h1,h2⟩:=z1e h
  have hbl:b≠l:=fun z=>h1 (by rw[z];exact hF)
  rw[z0k (by simpa using hbl),z0k fun z=>h1 (m0.mp z).1];exact h2
 have hsp:spM X.K i φ (xs ++ .ref l::ys) (hid F0 H) (fun v H'=>∃zs',But l (hid F0 H) H'/\H' l=some (.lst zs')/\IsAll X.K (hid [l] H') ws' zs'/\Is X.K (hid [l] H') d v) (fun _ _ _=>False) :=
  ⟨as,bs,xs,ys,ws,l,zs,rfl,hi,j1.same sub,j2.same sub,by rw[z0k lF0];exact hH,j3.same sub,(by rw[hg];exact fun z=>nomatch z),(fun c z=>by rw[hg] at z;cases z),fun d' w' v H' zs' e B hl jw jd=>by rw[hg] at e;cases e;exact⟨zs',B,hl,jw,jd⟩⟩
 have hl:us.length=ps.length:=by rw[<-r.length];exact Fn.ok.len _ _ _ _ hsp
 have hb:=Fn.binds s us I.kIn (by rw[List.append_nil];exact hl)
 rw[List.append_nil] at hb
 have nh:∀{b:Addr},H b=none->hid F0 H b=none:=fun {b} q=>by
  by_cases hb:b∈F0
  ·exact z7u hb
  ·rw[z0k hb];exact q
 have e0:=I.env0
 have en:Env0 X.prog X.w X.K X.mg X.base X.A X.stack s (hid F0 H):=⟨e0.frames,e0.mod,fun b o q=>⟨(e0.bs b o q).1,nh (e0.bs b o q).2⟩,e0.bsz,e0.funs,fun b hb=>nh (e0.frf b hb),x0g fo0 e0.hok,e0.bare⟩
 refine wpAny_call (codeAny_mono (Fn.ok.run X.A X.stack s (hid F0 H) ⟨us,[]⟩ us _ _ _ hr en hb r hsp) fun r' s' hq=>?_)
 cases r' with
 | error u=>obtain⟨_,_,_,_,_,_,_,_,_,_,_,_,_,_,_,_,_,_,_,_,_,_,_,_,_,_,hE⟩:=hq;exact hE.elim
 | ok fl =>
   cases fl with
   | ret u =>
     obtain⟨v,H1,os,bare,un,hok,rv,zs',B,hl1,jw,jd⟩:=hq
     have own:∀b,b∈F0->∃ys its n,H b=some (.lst ys)/\ys.length<=sizeLine/\Vals ys its/\s'.heap.get? b=some { cls:=.type "list",data:=.seq its.toArray n }/\H1 b=none:=fun b hb=>by
      obtain⟨ys,ey⟩:=fo0 b hb
      obtain⟨z,its,n,rv',gt⟩:=I.hok b _ ey
      exact⟨ys,its,n,ey,z,rv',un.keep b _ gt (z7u hb) (fun z=>by rw[e0.frf b z] at ey;cases ey) (by simp),un.free b _ gt (z7u hb) (by simp)⟩
     let H2:Hp:=fun b=>if b∈F0 then H b else H1 b
     have in2:∀{b},b∈F0->H2 b=H b:=fun {b} h=>if_pos h
     have out2:∀{b},b ∉ F0->H2 b=H1 b:=fun {b} h=>if_neg h
     have up:∀{b o},H1 b=some o->b ∉ F0/\H2 b=some o:=fun {b o} q=>by
      have hb:b ∉ F0:=fun z=>by obtain⟨_,_,_,_,_,_,_,z2⟩:=own b z;rw[q] at z2;cases z2
      exact⟨hb,(out2 hb).trans q⟩
     have notl:∀{b o},H b=some o->(∀ys,o ≠ .lst ys)->b ∉ F0:=fun {b o} q n z=>by obtain⟨ys,e⟩:=fo0 b z;rw[q] at e;cases e;exact n ys rfl
     have un2:Un (frs X.stack) [] H H2 s.heap s'.heap:=by
      refine⟨fun b o q n=>un.keep b o q (nh n),fun b o q n=>un.slot b o q (nh n),fun b o q n hx=>?_,un.there,fun b ys q=>?_,fun b o u q=>?_,fun b ps q=>?_⟩
      ·have hb:b ∉ F0:=fun z=>by obtain⟨ys,e⟩:=fo0 b z;rw[n] at e;cases e
       rw[out2 hb];exact un.free b o q (nh n) hx
      ·have hb:=notl q fun ys z=>nomatch z
       rw[out2 hb];exact un.tups b ys (by rw[z0k hb];exact q)
      ·have hb:=notl q fun ys z=>nomatch z
       rw[out2 hb];exact un.frzs b o u (by rw[z0k hb];exact q)
      ·have hb:=notl q fun ys z=>nomatch z
       rw[out2 hb];exact un.tbls b ps (by rw[z0k hb];exact q)
     have hok2:HOk X.prog X.w H2 s'.heap:=fun b u q=>by
      by_cases hb:b∈F0
      ·obtain⟨ys,its,n,ey,z,rv',gt,_⟩:=own b hb
       rw[in2 hb,ey] at q
       cases q
       exact⟨z,its,n,rv',gt⟩
      ·rw[out2 hb] at q
       exact(hok b u q).stay (fun c v _ e=>e) (fun c e=>(up e).2) fun c ys e=>(up e).2
     have I2:Inv X pins σ H2 s':=I.call' os un2 hok2 bare (fun b z=>absurd z (by simp))
     have B2:But l H H2:=fun b o hbl q=>by
      by_cases hb:b∈F0
      ·rw[in2 hb];exact q
      ·rw[out2 hb];exact B b o hbl (by rw[z0k hb];exact q)
     have Sx:Same (hid [l] H1) (hid F H2):=fun b o q=>by
      obtain⟨q1,q2⟩:=z1e q
      have hbl:b≠l:=by simpa using q1
      have hb:=up q2
      rw[z0k fun z=>hb.1 (m0.mpr ⟨z,hbl⟩)];exact hb.2
     exact⟨v,H2,zs',I2,rv,B2,(up hl1).2,jw.same Sx,jd.same Sx⟩
   | next=>exact False.elim hq
   | brk=>exact False.elim hq
   | cont=>exact False.elim hq
theorem Rel.but{K:PySem.W.Frag}{H H':Hp}{F:List Addr}{Γ:G}{σ:St}{w:Nat}{ws ws':List D}{l:Addr}{zs':List V}(r:Rel K H F Γ σ)(fo:FOk H F)(e:Γ[w]? = some (.own ws))(ea:σ[w]? = some (some (.ref l)))(B:But l H H')(hl:H' l=some (.lst zs'))(iv:IsAll K (hid F H') ws' zs'):Rel K H' F (Γ.set w (.own ws')) σ/\FOk H' F/\Ext H F H' F:=by
 obtain⟨a',zs,h1,hF,h3,h4⟩:=r.own w ws e
 rw[ea] at h1;cases h1
 have S:Same (hid F H) (hid F H'):=fun b o h=>by
  obtain⟨q1,q2⟩:=z1e h
  rw[z0k q1]
  exact B b o (fun z=>q1 (by rw[z];exact hF)) q2
 have hi:w<Γ.length:=(List.getElem?_eq_some_iff.mp e).1
 refine⟨⟨by rw[List.length_set,r.len],fun j d' h=>?_,fun j es h=>?_,fun j k es1 es2 b h1 h2 h3' h4'=>?_⟩,fun b hb=>?_,⟨fun b o hb q=>B b o (fun z=>hb (by rw[z];exact hF)) q,fun b hb=>.inl hb⟩⟩
 ·by_cases ej:w=j
  ·subst ej;rw[List.getElem?_set_self hi] at h;cases h
  ·rw[List.getElem?_set_ne ej] at h
   obtain⟨v,q1,q2⟩:=r.ro j d' h
   exact⟨v,q1,q2.same S⟩
 ·by_cases ej:w=j
  ·subst ej;rw[List.getElem?_set_self hi] at h;cases h
   exact⟨l,zs',ea,hF,hl,iv⟩
  ·rw[List.getElem?_set_ne ej] at h
   obtain⟨b,ys,q1,q2,q3,q4⟩:=r.own j es h
   exact⟨b,ys,q1,q2,B b _ (fun z=>ej (r.inj w j ws es l e h ea (by rw[<-z];exact q1))) q3,q4.same S⟩
 ·have old:∀(m:Nat) (es':List D),(Γ.set w (En.own ws'))[m]? = some (En.own es')->∃es0,Γ[m]? = some (En.own es0):=fun m es' h=>by
   by_cases el:w=m
   ·subst el;exact⟨ws,e⟩
   ·rw[List.getElem?_set_ne el] at h;exact⟨es',h⟩
  obtain⟨e1,q1⟩:=old j es1 h1
  obtain⟨e2,q2⟩:=old k es2 h2
  exact r.inj j k e1 e2 b q1 q2 h3' h4'
 ·by_cases z:b=l
  ·rw[z];exact⟨zs',hl⟩
  ·obtain⟨xs,q⟩:=fo b hb
   exact⟨xs,B b _ z q⟩
theorem z2j{k i w:Nat}{f:Addr}{fd:FuncData}{ps:List Str}{φ:List D->R (D×List D)}(Fn:FnM X.prog X.w X.K X.mg X.base k f fd ps i φ)(hr:Room k X.A)(hm:X.mg x=some (.ref f))(ha:PAM X i w (e::es) gs)(hg:Gl X x:=by rfl)(hdb:(x==("__debug__":Str))=false:=by decide)
 (he:starEach (e::es) X.env=(false,eval e X.env)::starEach es X.env:=by rfl) (hpl:(backTo pos (starEach es X.env)).any (·.1)=false:=by rfl):PEM X w (.Call (.Name x p) (e::es) [] pos) (z2i φ gs):=by
 refine⟨fun pins s σ H F Γ I fo rl hgg=>?_⟩
 obtain⟨ds,⟨d,ws'⟩,e1,e2,e3⟩:=x0k hgg
 rw[e3]
 refine wpAny_Call_Name_kw (z6f I hg hm ?_ hdb)
 refine PySem.W.callWith_K (h₀:=X.base) I.ok.mod.kin Fn.kp (wpAny_mono (ha.run pos pins s σ H F Γ I fo rl (by rw[e1];exact fun z=>nomatch z)) (fun us s1 ⟨as,bs,xs,ys,ws,l,H1,f1,I1,r1,S1,hi,hw,hσ,j1,j2⟩=>⟨I1.kIn,?_⟩) fun _ _ ⟨c,_,z,_⟩=>by rw[e1] at z;cases z) he hpl
 rw[e1] at f1;cases f1
 obtain⟨a',zs,h1,hF,h3,h4⟩:=(rl.same S1).own w ws hw
 rw[hσ] at h1;cases h1
 refine wpAny_mono (runM Fn hr (EE:=fun _ _=>False) I1 (fo.same S1) r1 hi j1 j2 hF h3 h4 e2) (fun u s2 ⟨v,H2,zs',I2,rv,B,hl,jw,jd⟩=>?_) fun _ _ z=>z
 obtain⟨R2,F2,E2⟩:=(rl.same S1).but (fo.same S1) hw hσ B hl jw
 exact⟨d,ws',v,H2,rfl,I2,rv,F2,R2,(Ext.of_same S1).trans E2,jd,(List.getElem?_eq_some_iff.mp hw).1⟩
end
structure PW (X:Cx) (i:Nat) (b:List Stmt) (g:G->R (D×List D)):Prop where
 run:∀(pins:List (Addr×Obj)) (s:Shared) (σ:St) (H:Hp) (F:List Addr) (Γ:G),Inv X pins σ H s->FOk H F->Rel X.K H F Γ σ->g Γ ≠ .no ->
  wpAny (model X.prog X.w) X.A (execs b X.env) (fun fl s'=>∃u,fl = .ret u/\∃d ws v σ' H' F' l zs,g Γ = .ok (d,ws)/\Inv X pins σ' H' s'/\RelV v u/\Ext H F H' F'/\σ[i]? = some (some (.ref l))/\H' l=some (.lst zs)/\l∈F'/\IsAll X.K (hid F' H') ws zs/\Is X.K (hid F' H') d v) (fun _ _=>False) s
section
variable {X:Cx}{e c:Expr}{g:G->R D}{pos pos':Pos}{st:Stmt}{rest:List Stmt}{t:G->R Fl}{u v:G->R (D×List D)}{i:Nat}
theorem x4c{Γ:G}{d:D}(h:(match Γ[i]? with | some (.own ws)=>R.ok (d,ws) | _=>R.no) ≠ .no):∃ws,Γ[i]? = some (.own ws):=by
 cases q:Γ[i]? with
 | none=>rw[q] at h;exact absurd rfl h
 | some en =>
   cases en with
   | no=>rw[q] at h;exact absurd rfl h
   | ro d'=>rw[q] at h;exact absurd rfl h
   | own ws=>exact⟨ws,rfl⟩
theorem y8q(he:PDr X e g):PW X i (.Return (some e) pos::rest) (y1k i g):=by
 refine⟨fun pins s σ H F Γ I fo rl hg=>?_⟩
 obtain⟨d,e1⟩:=R.good_ne (R.left hg)
 have e2:y1k i g Γ=(match Γ[i]? with | some (.own ws)=>R.ok (d,ws) | _=>R.no):=by unfold y1k;rw[e1];rfl
 rw[e2] at hg ⊢
 obtain⟨ws,hw⟩:=x4c hg
 obtain⟨l,zs,hσ,hF,hH,hia⟩:=rl.own i ws hw
 refine wpAny_execs_cons (wpAny_Return_some (wpAny_mono (he.run pins s σ H F Γ I fo rl (by rw[e1];exact fun z=>nomatch z)) (fun u s1 ⟨d',v,H1,f1,I1,r1,S1,i1⟩=>?_) fun _ _ ⟨c,_,z,_⟩=>by rw[e1] at z;cases z))
 rw[e1] at f1;cases f1
 exact⟨u,rfl,d,ws,v,σ,H1,F,l,zs,by rw[hw],I1,r1,.of_same S1,hσ,S1 _ _ hH,hF,hia.same (z2b S1),i1⟩
theorem z3g(h1:PK X i st t)(h2:PW X i rest u):PW X i (st::rest) (gStM t u):=by
 refine⟨fun pins s σ H F Γ I fo rl hg=>?_⟩
 cases ht:t Γ with
 | no=>exact absurd (show gStM t u Γ = .no by unfold gStM;rw[ht]) hg
 | er c=>exact absurd (show gStM t u Γ = .no by unfold gStM;rw[ht]) hg
 | ok f =>
   cases f with
   | nx Γ1 =>
     have e2:gStM t u Γ=u Γ1:=by unfold gStM;rw[ht]
     rw[e2] at hg ⊢
     refine wpAny_execs_cons (wpAny_mono (h1.run pins s σ H F Γ I fo rl (by rw[ht];exact fun z=>nomatch z)) (fun fl s1 q=>?_) fun x s1 q=>?_)
     ·rw[ht] at q
      cases fl with
      | next =>
        obtain⟨Γ',e,σ',H',F',I',fo',rl',E,k⟩:=q
        cases e
        refine wpAny_mono (h2.run pins s1 σ' H' F' Γ1 I' fo' rl' hg) (fun fl s2 ⟨u',hu,d,ws,v,σ2,H2,F2,l,zs,q1,q2,q3,q4,q5,q6,q7,q8,q9⟩=>?_) fun _ _ z=>z
        exact⟨u',hu,d,ws,v,σ2,H2,F2,l,zs,q1,q2,q3,E.trans q4,by rw[<-k];exact q5,q6,q7,q8,q9⟩
      | ret v=>exact(by obtain⟨v',σ',H',F',_,_,_,⟨d,z,_⟩ | ⟨_,_,_,z,_⟩⟩:=q<;>cases z)
      | brk=>exact(by obtain⟨Γ',z,_⟩:=q;cases z)
      | cont=>exact(by obtain⟨Γ',z,_⟩:=q;cases z)
     ·rw[ht] at q
      obtain⟨c,Γ',σ',H',F',z,_⟩:=q
      cases z
   | rt d=>exact absurd (show gStM t u Γ = .no by unfold gStM;rw[ht]) hg
   | rtF d=>exact absurd (show gStM t u Γ = .no by unfold gStM;rw[ht]) hg
   | bk d=>exact absurd (show gStM t u Γ = .no by unfold gStM;rw[ht]) hg
   | ct d=>exact absurd (show gStM t u Γ = .no by unfold gStM;rw[ht]) hg
   | ex c d=>exact absurd (show gStM t u Γ = .no by unfold gStM;rw[ht]) hg
theorem x7m{cs:List Stmt}{gc:G->R Bool}(hc:PTD X c gc)(ha:PW X i cs u)(hb:PW X i rest v):PW X i (.If c cs [] pos::rest) (gIfM gc u v):=by
 refine⟨fun pins s σ H F Γ I fo rl hg=>?_⟩
 obtain⟨k,e1⟩:=R.good_ne (R.left hg)
 have e2:gIfM gc u v Γ=if k=true then u Γ else v Γ:=by unfold gIfM;rw[e1];rfl
 rw[e2] at hg ⊢
 refine wpAny_execs_cons (wpAny_If (wpAny_mono (hc.run pins s σ H F Γ I fo rl (by rw[e1];exact fun z=>nomatch z)) (fun k' s1 q=>?_) fun _ _ ⟨c,_,z,_⟩=>by rw[e1] at z;cases z))
 obtain⟨H1,f1,I1,S1⟩:=q
 rw[e1] at f1;cases f1
 have fin:∀{w:G->R (D×List D)} {b:List Stmt} {Q:Flow->Shared->Prop},PW X i b w->w Γ ≠ .no->(∀fl s',(∃u,fl = .ret u/\∃d ws v σ' H' F' l zs,w Γ = .ok (d,ws)/\Inv X pins σ' H' s'/\RelV v u/\Ext H F H' F'/\σ[i]? = some (some (.ref l))/\H' l=some (.lst zs)/\l∈F'/\IsAll X.K (hid F' H') ws zs/\Is X.K (hid F' H') d v)->Q fl s')->wpAny (model X.prog X.w) X.A (execs b X.env) Q (fun _ _=>False) s1:=fun {w b Q} hw hn hQ =>
  wpAny_mono (hw.run pins s1 σ H1 F Γ I1 (fo.same S1) (rl.same S1) hn) (fun fl s2 ⟨u',hu,d,ws,v,σ2,H2,F2,l,zs,q1,q2,q3,q4,q5,q6,q7,q8,q9⟩=>hQ _ _ ⟨u',hu,d,ws,v,σ2,H2,F2,l,zs,q1,q2,q3,(Ext.of_same S1).trans q4,q5,q6,q7,q8,q9⟩) fun _ _ z=>z
 cases k with
 | true =>
   rw[if_pos rfl] at hg ⊢
   refine fin ha hg fun fl s' h=>?_
   obtain⟨u',hu,h'⟩:=h
   subst hu
   exact⟨u',rfl,h'⟩
 | false =>
   rw[if_neg (by decide)] at hg ⊢
   refine wpAny_execs_nil ?_
   exact fin hb hg fun fl s' h=>h
theorem y8p(he:PEM X i e u):PW X i (.Return (some e) pos::rest) u:=by
 refine⟨fun pins s σ H F Γ I fo rl hg=>?_⟩
 refine wpAny_execs_cons (wpAny_Return_some (wpAny_mono (he.run pins s σ H F Γ I fo rl hg) (fun u' s1 ⟨d,ws,v,H1,f1,I1,r1,fo1,rl1,E1,i1,hi⟩=>?_) fun _ _ z=>z))
 obtain⟨l,zs,hσ,hF,hH,hia⟩:=rl1.own i ws (List.getElem?_set_self hi)
 exact⟨u',rfl,d,ws,v,σ,H1,F,l,zs,f1,I1,r1,E1,hσ,hH,hF,hia,i1⟩
end
theorem y7a{K:PySem.W.Frag}{H:Hp}{N:List Str}{as bs ws:List D}{xs ys zs:List V}{l:Addr}(j1:IsAll K (hid [l] H) as xs)(j2:IsAll K (hid [l] H) bs ys)(hH:H l=some (.lst zs))(j3:IsAll K (hid [l] H) ws zs) :
 Rel K H [l] ((ini N.length (as ++ .lst ws::bs)).set as.length (.own ws)) (L2.start N (xs ++ .ref l::ys)):=by
 have l1:=j1.length
 have l2:=j2.length
 have hlen:(as++D.lst ws::bs).length=(xs++V.ref l::ys).length:=by simp[l1,l2]
 have hil:as.length<(ini N.length (as ++ .lst ws::bs)).length:=by unfold ini;simp
 have key:∀(j:Nat) (en:En),j≠as.length->(ini N.length (as ++ .lst ws::bs))[j]? = some en->(∃d v,en = .ro d/\(L2.start N (xs ++ .ref l::ys))[j]? = some (some v)/\Is K (hid [l] H) d v)∨en = .no:=fun j en hne h=>by
  unfold ini at h
  by_cases hj:j<(as++D.lst ws::bs).length
  ·rw[List.getElem?_append_left (by simpa using hj),List.getElem?_map,List.getElem?_eq_getElem hj] at h
   have hst:(L2.start N (xs ++ .ref l::ys))[j]? = some (some ((xs++V.ref l::ys)[j]'(by rw[<-hlen];exact hj))):=by
    unfold L2.start
    rw[List.getElem?_append_left (by rw[List.length_map,<-hlen];exact hj),List.getElem?_map,List.getElem?_eq_getElem (by rw[<-hlen];exact hj)];rfl
   cases h
   refine .inl ⟨_,_,rfl,hst,?_⟩
   by_cases hja:j<as.length
   ·have e1:(as++D.lst ws::bs)[j]'hj=as[j]'hja:=List.getElem_append_left hja
    have e2:(xs++V.ref l::ys)[j]'(by rw[<-hlen];exact hj)=xs[j]'(by rw[<-l1];exact hja):=List.getElem_append_left (by rw[<-l1];exact hja)
    rw[e1,e2]
    obtain⟨v,hv,iv⟩:=j1.get (List.getElem?_eq_getElem hja)
    rw[List.getElem?_eq_getElem (by rw[<-l1];exact hja)] at hv
    cases hv;exact iv
   ·obtain⟨m,rfl⟩:∃m,j=as.length+1+m:=⟨j-as.length-1,by lia⟩
    have hm:m<bs.length:=by simp at hj;lia
    have e1:(as++D.lst ws::bs)[as.length+1+m]'hj=bs[m]'hm:=by
     rw[List.getElem_append_right (by lia)]
     have:as.length+1+m-as.length=m+1:=by lia
     simp only[this,List.getElem_cons_succ]
    have e2:(xs++V.ref l::ys)[as.length+1+m]'(by rw[<-hlen];exact hj)=ys[m]'(by rw[<-l2];exact hm):=by
     rw[List.getElem_append_right (by lia)]
     have:as.length+1+m-xs.length=m+1:=by lia
     simp only[this,List.getElem_cons_succ]
    rw[e1,e2]
    obtain⟨v,hv,iv⟩:=j2.get (List.getElem?_eq_getElem hm)
    rw[List.getElem?_eq_getElem (by rw[<-l2];exact hm)] at hv
    cases hv;exact iv
  ·rw[List.getElem?_append_right (by simpa using hj),List.getElem?_replicate] at h
   split at h
   ·cases h;exact .inr rfl
   ·cases h
 have here:(L2.start N (xs ++ .ref l::ys))[as.length]? = some (some (.ref l)):=by
  unfold L2.start
  rw[List.getElem?_append_left (by simp;lia),List.getElem?_map,List.getElem?_append_right (by lia),l1,Nat.sub_self];rfl
 have ownj:∀(j:Nat) (es:List D),((ini N.length (as ++ .lst ws::bs)).set as.length (.own ws))[j]? = some (.own es)->j=as.length/\es=ws:=fun j es h=>by
  by_cases q:as.length=j
  ·subst q
   rw[List.getElem?_set_self hil] at h
   cases h;exact⟨rfl,rfl⟩
  ·rw[List.getElem?_set_ne q] at h
   rcases key j _ (Ne.symm q) h with ⟨d,v,z,_⟩ | z<;>cases z
 refine⟨?_,fun j d h=>?_,fun j es h=>?_,fun j k es fs a h1 h2 _ _=>?_⟩
 ·rw[List.length_set]
  unfold ini L2.start
  simp only[List.length_append,List.length_map,List.length_replicate,hlen]
 ·by_cases q:as.length=j
  ·subst q;rw[List.getElem?_set_self hil] at h;cases h
  ·rw[List.getElem?_set_ne q] at h
   rcases key j _ (Ne.symm q) h with ⟨d',v,z,z2,z3⟩ | z
   ·cases z;exact⟨v,z2,z3⟩
   ·cases z
 ·obtain⟨rfl,rfl⟩:=ownj j es h
  exact⟨l,zs,here,by simp,hH,j3⟩
 ·rw[(ownj j es h1).1,(ownj k fs h2).1]
section
variable {P:Program}{w:World}{K:PySem.W.Frag}{mg:Str->Option Value}{base:Heap}
end
section
variable {X:Cx}{y:Str}{scope:Scope}
theorem x0y{elt iter:Expr}{px pos:Pos}{pins:List (Addr×Obj)}{σ:St}{H₂:Hp}{s₂:Shared}{n:Nat}{it l:Addr}{zs:List V}{fp:List Addr}{tn:Nat->Heap->Prop}{E:Value->Shared->Prop}
 (hp:∀(C:Addr) (ps:List (Addr×Obj)) (s:Shared) (x:V) (H:Hp) (ys:List V) (z:V),Inv (z0q X y scope C s₂ H₂ fp (X.pn++pins)) ps (some x::σ) H s->H l=some (.lst (ys++[z])) ->
   wpAny (model X.prog X.w) X.A (eval elt (compEnvC scope (capt X.env scope.names []) C X.env)) (fun u s₄=>RelV z u/\Inv (z0q X y scope C s₂ H₂ fp (X.pn++pins)) ps (some x::σ) (upd H l (.lst ys)) s₄) (fun _ _=>False) s)
 (c:CompOk X.N X.env y scope) (hN:X.N.Nodup) (hcalm:X.calm=true) (I:Inv X pins σ H₂ s₂) (T:Turn X.prog X.w X.K (.Name y px) (Itr 0 n) fp it tn) (t0:tn 0 s₂.heap) (hf:∀b∈fp,FpOk X pins H₂ b)
 (hH:H₂ l=some (.lst zs)) (hn:n<=zs.length) (hl:zs.length<=100000) {RR:Value->Addr->Result->Shared->Prop}
 (hR:∀(Dd C:Addr) (H':Hp) (m:Str->Option Value) (s':Shared),s₂.heap.objs.size<=C->Dd≠C->H₂ Dd=none->H' Dd=none->H' C=none->s₂.heap.objs.size<=Dd->But l H₂ H'->H' l=some (.lst (zs.take (zs.length-n)))->Inv X pins σ (upd H' Dd (.lst (zs.reverse.take n))) s'->s'.heap.Ns C m->RR (.ref Dd) C (.ok .next) s') :
 wpAny (model X.prog X.w) X.A (newList []) (fun acc s₃=>wpAny (model X.prog X.w) X.A (newFunctionEnv scope X.env.globals (capt X.env scope.names []) [] X.env.qual none .none (some X.env)) (fun cenv s₄ =>
  codeAny (model X.prog X.w) X.A (.compStart (.ListComp elt [⟨.Name y px,iter,[],0⟩] scope pos) 0 (.ref it) acc { cenv with scope:=relabel scope X.env }) (RR acc cenv.locals) s₄) E s₃) E s₂:=by
 have ho:∀b∈fp,b<s₂.heap.objs.size:=fun b hb=>by obtain⟨o,e,_⟩:=T.obj _ _ t0 b hb;exact Heap.lt_size e
 refine wpAny_newObj_type (wpAny_newFunctionEnv c.nocell (by intro y hy;simp at hy) (fun h₁ hns₁ hsb₁=>?_) c.kind)
 dsimp only at hns₁ hsb₁ ⊢
 generalize hH2:s₂.heap.push { cls:=.type "list",dict:=none,data:=.seq ([]:List Value).toArray }=H2 at hns₁ hsb₁ ⊢
 have hCs:H2.objs.size=s₂.heap.objs.size+1:=by rw[<-hH2,Heap.size_push]
 generalize hCC:H2.objs.size=C at hns₁ hsb₁ hCs ⊢
 generalize hDD:s₂.heap.objs.size=Dd at hCs ⊢
 obtain⟨⟨hDC,hC,hD⟩,below⟩:=sb2 hCs hDD
 have old:∀b o,s₂.heap.get? b=some o->h₁.get? b=some o:=fun b o e=>by
  refine hsb₁.extBut b o (below b (Heap.lt_size e)).1 ?_
  exact Heap.get?_push_of_some _ (hH2 ▸ Heap.get?_push_of_some _ e)
 have hacc:h₁.get? Dd=some { cls:=.type "list",dict:=none,data:=.seq ([]:List Value).toArray }:=by
  refine hsb₁.extBut _ _ hDC ?_
  refine Heap.get?_push_of_some _ ?_
  rw[<-hH2,<-hDD]
  exact Heap.get?_push_size _ rfl
 have J0:∀tk,Inv (z0q X y scope C s₂ H₂ fp (X.pn++pins)) [(Dd,{ cls:=.type "list",dict:=none,data:=.seq ([]:List Value).toArray })] (none::σ) H₂ { s₂ with heap:=h₁,toks:=tk }:=fun tk =>
  y0p I c hC hD hDC hf ho old hns₁ hacc (fun v z=>nomatch z)
 have t1:tn 0 h₁:=T.keep _ _ _ t0 fun b hb o e=>old b o e
 have fpY:∀{H':Hp} {o:Obj},(∀b∈fp,H' b=none)->∀b∈fp,FpOk (z0q X y scope C s₂ H₂ fp (X.pn++pins)) [(Dd,o)] H' b:=fun {H' o} hn b hb=>by
  obtain⟨f0,f1,f2,f3,f4,f5⟩:=hf b hb
  have lt:=ho b hb
  refine⟨hn b hb,(below b lt).1,fun z=>?_,.inl hb,fun x k e=>?_,fun p hp'=>?_⟩
  ·rcases List.mem_cons.mp (I.stkSub b z) with q | q
   ·exact f1 q
   ·exact f2 q
  ·rcases z3o scope.names [] (PySem.mem_of_lookup e) with q | q
   ·simp at q
   ·exact f4 x k q
  ·rcases List.mem_append.mp hp' with q | q
   ·exact f5 p q
   ·have e:p=(Dd,o):=by simpa using q
    subst e
    exact Ne.symm (below b lt).2
 have NdY:(z0q X y scope C s₂ H₂ fp (X.pn++pins)).N.Nodup:=by
  show(y::X.N.map (fun z=>if z=y then ("":Str) else z)).Nodup
  refine List.nodup_cons.mpr ⟨fun z=>?_,?_⟩
  ·obtain⟨z',hz,e⟩:=List.mem_map.mp z
   by_cases q:z'=y
   ·rw[if_pos q] at e
    subst e
    have:=c.loc;rw[c.nil] at this;cases this
   ·rw[if_neg q] at e;exact q e
  ·have inj:∀a∈X.N,∀b∈X.N,(if a=y then ("":Str) else a)=(if b=y then ("":Str) else b)->a=b:=fun a ha b hb e=>by
    by_cases qa:a=y
    ·by_cases qb:b=y
     ·rw[qa,qb]
     ·rw[if_pos qa,if_neg qb] at e;exact absurd e.symm (c.none b hb)
    ·by_cases qb:b=y
     ·rw[if_neg qa,if_pos qb] at e;exact absurd e (c.none a ha)
     ·rw[if_neg qa,if_neg qb] at e;exact e
   have gen:∀l:List Str,(∀a∈l,a∈X.N)->l.Nodup->(l.map (fun z=>if z=y then ("":Str) else z)).Nodup:=by
    intro l
    induction l with
    | nil=>intro _ _;exact List.nodup_nil
    | cons a l ih =>
      intro hs nd
      obtain⟨n1,n2⟩:=List.nodup_cons.mp nd
      rw[List.map_cons]
      refine List.nodup_cons.mpr ⟨fun z=>?_,ih (fun b hb=>hs b (List.mem_cons_of_mem _ hb)) n2⟩
      obtain⟨b,hb,e⟩:=List.mem_map.mp z
      exact n1 (inj b (hs b (List.mem_cons_of_mem _ hb)) a (hs a List.mem_cons_self) e ▸ hb)
   exact gen X.N (fun _ h=>h) hN
 let L:Nat->Shared->Prop:=fun m s'=>∃(i:Nat) (H':Hp) (o:Option V) (its:List Value) (k:Nat),m=n-i/\i<=n/\Inv (z0q X y scope C s₂ H₂ fp (X.pn++pins)) [(Dd,{ cls:=.type "list",dict:=none,data:=.seq its.toArray k })] (o::σ) H' s' /\
  But l H₂ H'/\H' l=some (.lst (zs.take (zs.length-i)))/\(∀b∈fp,H' b=none)/\tn i s'.heap/\Vals (zs.reverse.take i) its
 have loop:∀s₄:Shared,L n s₄->codeAny (model X.prog X.w) X.A (.compLoop (.ListComp elt [⟨.Name y px,iter,[],0⟩] scope pos) 0 (.ref it) (.ref Dd) (compEnvC scope (capt X.env scope.names []) C X.env)) (RR (.ref Dd) C) s₄:=fun s₄ h4=>by
  refine codeAny_compLoop_tests L (fun m s' hL=>wpAny_mono (E:=fun _ _=>False) ?_ (fun _ _ q=>q) fun _ _ z=>z.elim) n h4
  obtain⟨i,H',o,its,k,en,hi,J',B',hl',fr',tn',rv⟩:=hL
  have hpD:=J'.pin (Dd,{ cls:=.type "list",dict:=none,data:=.seq its.toArray k }) (List.mem_append_right _ (by simp))
  have hxl:(zs.reverse.take i).length<=100000:=by rw[List.length_take,List.length_reverse];lia
  have hsl:(100000:Nat)<=sizeLine:=by rw[sizeLine_eq];decide
  by_cases hlt:i<n
  ·refine thn (T.item (z0q X y scope C s₂ H₂ fp (X.pn++pins)) rfl rfl rfl hcalm i _ s' _ H' (fun _ _=>False) J' (fpY fr') tn' hlt) fun r s2 ⟨u,hr,h1⟩=>?_
   subst hr
   refine y2a (a:=()) h1 fun⟨x,H5,J5,r5,y5,st5,fr5⟩=>?_
   obtain⟨e5,ex⟩:=y5
   subst e5
   have J5':=J5.pinned (fpY fr5) (T.obj _ _ st5)
   have hpg:PG (z0q X y scope C s₂ H₂ fp (X.pn++pins)).nox (.Name y px) (x2w 0):=y4g (X:=(z0q X y scope C s₂ H₂ fp (X.pn++pins)).nox) NdY rfl (.inl (lookup_relabel_local c.loc)) (.inr (lookup_relabel_local c.loc))
   refine wpAny_mono (hpg _ s2 (o::σ) H5 x u (fun σ' H'=>σ'=some x::σ/\H'=H5) (J5'.wish _) r5 ⟨rfl,rfl⟩) (fun _ s3 ⟨σ6,H6,J6,e6,e6'⟩=>?_) fun _ _ z=>z.elim
   subst e6 e6'
   have J6':=J6.unwish
   refine wpAny_tests_nil ?_
   rw[if_pos rfl]
   have hlz:zs.length-i=zs.length-(i+1)+1:=by lia
   have hsplit:zs.take (zs.length-i)=zs.take (zs.length-(i+1))++[zs[zs.length-(i+1)]'(by lia)]:=by
    rw[hlz,List.take_succ_eq_append_getElem]
   rw[hsplit] at hl'
   refine wpAny_mono (hp C _ s3 x H6 _ _ J6' hl') (fun u7 s5 ⟨r7,J7⟩=>?_) fun _ _ z=>z.elim
   have back:∀{s5:Shared} {H7:Hp} {σ7:St},Inv (z0q X y scope C s₂ H₂ fp (X.pn++pins)) ([(Dd,{ cls:=.type "list",dict:=none,data:=.seq its.toArray k })]++y0h fp s2.heap) σ7 H7 s5->tn (i+1) s5.heap/\(∀b∈fp,H7 b=none):=fun {s5 H7 σ7} J7=>by
    refine⟨T.keep _ _ _ st5 fun b hb o' e=>(J7.pin (b,o') (List.mem_append_right _ (List.mem_append_right _ (z3p hb e)))).1,fun b hb=>?_⟩
    obtain⟨o',e,dd⟩:=T.obj _ _ st5 b hb
    exact(J7.pin (b,o') (List.mem_append_right _ (List.mem_append_right _ (z3p hb e)))).2.1
   obtain⟨tn7,fr7⟩:=back J7
   have J8:=J7.unpinned
   have hpD7:=J8.pin (Dd,{ cls:=.type "list",dict:=none,data:=.seq its.toArray k }) (List.mem_append_right _ (by simp))
   refine wpAny_list_append_plain (l:=Dd) (items:=its.toArray) (x:=u7) ⟨k,hpD7.1⟩ (fun h' hl'' hs'=>?_) (by rw[List.size_toArray,<-rv.length];exact Nat.le_trans hxl hsl)
   obtain⟨k',hk'⟩:=hl''
   have epush:its.toArray.push u7=(its++[u7]).toArray:=by simp
   rw[epush] at hk'
   have J9:Inv (z0q X y scope C s₂ H₂ fp (X.pn++pins)) [] (some x::σ) (upd H6 l (.lst (zs.take (zs.length-(i+1))))) s5:=J8.pins_of fun p hp'=>by simp at hp'
   have J10:Inv (z0q X y scope C s₂ H₂ fp (X.pn++pins)) [] (some x::σ) (upd H6 l (.lst (zs.take (zs.length-(i+1))))) { s5 with heap:=h' }:=J9.turned (t':=s5.toks) (it:=Dd) (fun b o' hb e'=>(hs'.2 b hb).trans e') hpD7.2.1 hDC (.inr hD) (fun x' k'' e' z=>by
    rcases z3o scope.names [] (PySem.mem_of_lookup e') with q | q
    ·simp at q
    ·obtain⟨v',o',ho',_⟩:=I.cell x' k'' q
     exact(below k'' (Heap.lt_size ho')).2 z) (fun p hp' z=>by
    rcases List.mem_append.mp hp' with q | q
    ·obtain⟨h1',_⟩:=I.pin p q
     exact(below p.1 (Heap.lt_size h1')).2 z
    ·simp at q)
   have J11:Inv (z0q X y scope C s₂ H₂ fp (X.pn++pins)) [(Dd,{ cls:=.type "list",dict:=none,data:=.seq (its++[u7]).toArray k' })] (some x::σ) (upd H6 l (.lst (zs.take (zs.length-(i+1))))) { s5 with heap:=h' }:=J10.pins_of fun p hp'=>by
    have e':p=(Dd,{ cls:=.type "list",dict:=none,data:=.seq (its++[u7]).toArray k' }):=by simpa using hp'
    subst e'
    exact⟨hk',hpD7.2.1,hDC,hpD7.2.2.2.1,fun v z=>nomatch z⟩
   have hrev:zs.reverse.take (i+1)=zs.reverse.take i++[zs[zs.length-(i+1)]'(by lia)]:=by
    rw[List.take_succ_eq_append_getElem (by rw[List.length_reverse];lia),List.getElem_reverse]
    congr 3;lia
   refine⟨n-(i+1),by lia,i+1,_,some x,its++[u7],k',rfl,hlt,J11,fun b o' hb q=>by rw[z0s hb];exact B' b o' hb q,z0l,fr7,T.keep _ _ _ tn7 fun b hb o' e'=>(hs'.2 b (below b (ho b hb)).2).trans e',by rw[hrev];exact rv.append (.cons r7 .nil)⟩
  ·have hi':i=n:=Nat.le_antisymm hi (Nat.le_of_not_lt hlt)
   subst hi'
   refine thn (T.done (z0q X y scope C s₂ H₂ fp (X.pn++pins)) rfl rfl rfl hcalm _ _ s' _ H' (fun _ _=>False) J' (fpY fr') tn' (Nat.le_refl _)) fun r s1 ⟨hr,J1⟩=>?_
   subst hr
   have hpD1:=J1.pin (Dd,{ cls:=.type "list",dict:=none,data:=.seq its.toArray k }) (List.mem_append_right _ (by simp))
   obtain⟨mC,hnC,_⟩:=J1.loc
   exact hR Dd C H' mC s1 hC hDC (I.hok.fresh hD) hpD1.2.1 J1.free hD B' hl' (y3f I J1 hD hpD1.2.1 hpD1.1 rv (Nat.le_trans hxl hsl) hf) hnC
 have L0:∀tk,L n { s₂ with heap:=h₁,toks:=tk }:=fun tk=>⟨0,H₂,none,[],_,rfl,Nat.zero_le _,J0 tk,fun _ _ _ q=>q,by rw[Nat.sub_zero,List.take_length];exact hH,fun b hb=>(hf b hb).1,t1,.nil⟩
 exact codeAny_compStart_list (loop _ (L0 _)) (T.self _ 0 _ _ _ t1 (loop _ (L0 _)))
end
theorem IsAll.reverseT{K:PySem.W.Frag}{H:Hp}:∀{ds:List D} {xs:List V},IsAll K H ds xs->IsAll K H ds.reverse xs.reverse
 | [],xs,h=>by rw[IsAll.nil_iff.mp h];exact IsAll.nil
 | d::ds,xs,h=>by
   obtain⟨x,r,rfl,h1,h2⟩:=IsAll.cons_iff.mp h
   rw[List.reverse_cons,List.reverse_cons]
   exact(IsAll.reverseT h2).append (IsAll.cons h1 IsAll.nil)
noncomputable def PopE(X:Cx)(j:Nat)(elt:Expr):Prop:=∀(pins:List (Addr×Obj)) (s:Shared) (σ:St) (H:Hp) (l:Addr) (ys:List V) (z:V),Inv X pins σ H s->σ[j]? = some (some (.ref l))->H l=some (.lst (ys++[z])) ->
 wpAny (model X.prog X.w) X.A (eval elt X.env) (fun u s'=>RelV z u/\Inv X pins σ (upd H l (.lst ys)) s') (fun _ _=>False) s
theorem x9h{X:Cx}(j:Nat){x:Str}{pl apos cpos:Pos}(hN:X.N[j]? = some x:=by rfl)(hv:Vis X.env.scope x:=by first | exact Or.inl rfl | exact Or.inr (Or.inl rfl) | exact Or.inr (Or.inr rfl))(hd:(x==("__debug__":Str))=false:=by decide)(hcd:(x==("__classdict__":Str))=false:=by decide)
 (hbase:attributeBase (.Name x pl) "pop" X.env (eval (.Name x pl) X.env)=eval (.Name x pl) X.env:=by rfl) (hline:(apos.endLine==cpos.line)=true:=by rfl):PopE X j (.Call (.Attribute (.Name x pl) "pop" apos) [] [] cpos):=by
 intro pins s σ H l ys z I hσ hH
 refine wpAny_Call_method0_late hbase hline (wpAny_mono (z7r (X:=X.nox) hN hv hd hcd pins s σ H (fun v' H'=>v' = .ref l/\H'=H) (I.wish _) ⟨.ref l,hσ,rfl,rfl⟩) (fun v s2 q2=>?_) fun _ _ z=>False.elim z)
 obtain⟨v2,H2,I2,r2,e3,e4⟩:=q2
 subst e3 e4
 have I2':=I2.unwish
 obtain⟨t1,t2⟩:=y5j (T:="list") I2' r2 (.inl ⟨rfl,_,SqL.of hH⟩)
 refine⟨"list",_,PySem.F.plainAttrs_list,PySem.F.slot_list_pop,PySem.F.type_list_pop,t1,t2,Calls.callWith_builtin rfl (PySem.evalArgs_none ?_)⟩
 refine wpAny_mono (x8b (X:=X.nox) pins s2 σ H2 (.ref l) [] v [] (fun z' H''=>z'=z/\H''=upd H2 l (.lst ys)) (I2'.wish _) r2 .nil ⟨l,ys++[z],z,rfl,rfl,hH,by simp,rfl,by simp⟩) (fun u3 s3 q3=>?_) fun _ _ z=>False.elim z
 obtain⟨y3,H3,I3,r3,e5,e6⟩:=q3
 subst e5 e6
 exact⟨r3,I3.unwish⟩
section
variable {X:Cx}{y:Str}{scope:Scope}{rest:List Stmt}
theorem x5h{i:Nat}{elt cnt:Expr}{gc:G->R D}{px pr pos pos' rpos:Pos}(hc:PD X cnt gc)(hp:∀C s₂ H₂ fp pn,PopE (z0q X y scope C s₂ H₂ fp pn) (i+1) elt)(hN:X.N.Nodup)(hcalm:X.calm=true)(hm:X.mg "range"=none)(hg:Gl X "range":=by rfl)(hs1:starEach [cnt] X.env=[(false,eval cnt X.env)]:=by rfl)
 (chk:z9u X.N X.env y scope=true:=by rfl) (hclos:closureFor scope X.env=pure (capt X.env scope.names []):=by rfl) (hs:∀x,foldedSetIterable (.Call (.Name "range" pr) [cnt] [] pos') X.env x=pure x:=by intro _;rfl) :
 PW X i (.Return (some (.ListComp elt [⟨.Name y px,.Call (.Name "range" pr) [cnt] [] pos',[],0⟩] scope pos)) rpos::rest) (y7q i gc):=by
 refine⟨fun pins s σ H F Γ I fo rl hgg=>?_⟩
 obtain⟨n,ws,e1,hw,n0,nw,wl,e2⟩:=x2v hgg
 rw[e2]
 obtain⟨l,zs,hσ,hF,hH,hia⟩:=rl.own i ws hw
 have hzl:zs.length=ws.length:=hia.length.symm
 have c:=z9r chk
 refine wpAny_execs_cons (wpAny_Return_some ?_)
 rw[eval_ListComp]
 refine wpAny_comprehension_free (use:=none) rfl hs hclos c.kind c.names ?_
 refine Call_ (z2t I hg hm boot_range (PyProof.Rows.callWith_type1 ?_ hs1 rfl))
 rw[hs1]
 show wpAny _ _ (spliced ((false,eval cnt X.env)::backTo pos' [])) _ _ s
 refine Calls.spliced_cons (wpAny_mono (hc.run pins s σ H F Γ I fo rl (by rw[e1];exact fun z=>nomatch z)) (fun u s1 ⟨d',v,H1,f1,I1,r1,S1,i1⟩=>Calls.spliced_nil ?_) fun _ _ ⟨c,_,z,_⟩=>by rw[e1] at z;cases z)
 rw[e1] at f1;cases f1
 rw[Is.int_iff.mp i1] at r1
 obtain⟨t,rfl⟩:=(show ∃t,u=Value.int n t from r1)
 refine call_range_1 (thn (y1c (tg:=.Name y px) (R:=fun J H'=>J=Itr 0 (n-0).toNat/\H'=H1) I1 (by lia) (by lia) (by lia) (by lia) ⟨rfl,rfl⟩) fun itv s2 ⟨it,fp,tn,J,H',ei,I2,T,t0,fk,eJ,eH⟩=>?_)
 subst eJ eH ei
 rw[Int.sub_zero] at T
 have hH1:=S1 _ _ hH
 refine x0y (l:=l) (zs:=zs) (n:=n.toNat) (RR:=fun acc C=>compPost (model X.prog X.w) X.A _ none _ acc C) (fun C ps s' x H' ys z J' hl'=>hp C s2 _ fp (X.pn++pins) ps s' (some x::σ) H' l ys z J' (by simpa using hσ) hl') c hN hcalm I2 T t0 fk hH1 (by lia) (by lia) ?_
 intro Dd C H' m s' hC hDC hn hn' hnC hD B hl I' hnsC
 refine⟨m,hnsC,fun h'' hs''=>?_⟩
 have nlt:∀{b:Addr} {o:Obj},s2.heap.get? b=some o->b≠C:=fun e=>Nat.ne_of_lt (Nat.lt_of_lt_of_le (Heap.lt_size e) hC)
 have I'':Inv X pins σ (upd H' Dd (.lst (zs.reverse.take n.toNat))) { s' with heap:=h'' }:=I'.turned (t':=s'.toks) (it:=C) (fun b o hb e=>hs''.extBut b o hb e) (by rw[z0s (Ne.symm hDC)];exact hnC) (Nat.ne_of_gt (Nat.lt_of_lt_of_le I2.lt hC)) (.inr (Nat.le_trans I2.sz hC))
  (fun x k e=>by obtain⟨v,o,ho,_⟩:=I2.cell x k e;exact nlt ho) (fun p hp'=>nlt (I2.pin p hp').1)
 have hlD:l≠Dd:=fun z=>by rw[z] at hH1;rw[hn] at hH1;cases hH1
 have DF:Dd ∉ F:=fun z=>by obtain⟨xs,q⟩:=fo Dd z;rw[S1 _ _ q] at hn;cases hn
 have up:∀b o,b≠l->H b=some o->upd H' Dd (.lst (zs.reverse.take n.toNat)) b=some o:=fun b o hb q=>by
  have q1:=S1 _ _ q
  rw[z0s fun z=>by rw[z] at q1;rw[hn] at q1;cases q1]
  exact B b o hb q1
 have S3:Same (hid F H) (hid F (upd H' Dd (.lst (zs.reverse.take n.toNat)))):=fun b o q=>by
  obtain⟨q1,q2⟩:=z1e q
  rw[z0k q1]
  exact up b o (fun z=>q1 (by rw[z];exact hF)) q2
 have hia':=hia.same S3
 refine⟨_,rfl,_,_,.ref Dd,σ,_,F,l,zs.take (zs.length-n.toNat),rfl,I'',rfl,⟨fun b o hb q=>up b o (fun z=>hb (by rw[z];exact hF)) q,fun b hb=>.inl hb⟩,hσ,by rw[z0s hlD];exact hl,hF,?_,?_⟩
 ·rw[<-hzl]
  exact IsAll.take _ hia'
 ·exact Is.lst_iff.mpr ⟨Dd,zs.reverse.take n.toNat,rfl,SqL.of (by rw[z0k DF];exact z0l),IsAll.take _ (IsAll.reverseT hia')⟩
end
section
variable {X:Cx}{e a b c:Expr}{g ga gb:G->R D}{u:G->R (D×List D)}{pos pos' p:Pos}{w:Nat}{x:Str}
theorem okM{r:R (D×List D)}{k:D->List D->R Fl}(h:(match r with | .ok (d,ws)=>k d ws | _=>.no) ≠ .no):∃d ws,r = .ok (d,ws)/\k d ws ≠ .no:=by
 cases r with
 | ok q=>exact⟨q.1,q.2,rfl,h⟩
 | no=>exact absurd rfl h
 | er c=>exact absurd rfl h
theorem okMM{r:R (D×List D)}{k:D->List D->R (D×List D)}(h:(match r with | .ok (d,ws)=>k d ws | _=>.no) ≠ .no):∃d ws,r = .ok (d,ws)/\k d ws ≠ .no:=by
 cases r with
 | ok q=>exact⟨q.1,q.2,rfl,h⟩
 | no=>exact absurd rfl h
 | er c=>exact absurd rfl h
theorem z8s(j:Nat)(he:PEM X w e u)(hN:X.N.Nodup)(hij:j≠w:=by decide)(hi:X.N[j]? = some x:=by rfl)(hx:Loc X.env.scope x:=by first | exact Or.inl rfl | exact Or.inr rfl)(hs:swapsWith e (some (.Name x pos')) pos.line X.env=pure false:=by rfl)(hf:X.fn x=true∨X.env.scope.names.lookup x=some .local:=by first | exact .inl rfl | exact .inr rfl | assumption) :
 PK X w (.Assign [.Name x pos'] e pos) (z9z j w u):=by
 refine⟨fun pins s σ H F Γ I fo rl hg=>?_⟩
 obtain⟨d,ws,e1,_⟩:=okM hg
 have e2:z9z j w u Γ = .ok (.nx ((Γ.set w (.own ws)).set j (.ro d))):=by unfold z9z;rw[e1]
 rw[e2]
 refine wpAny_Assign_Name (wpAny_mono (he.run pins s σ H F Γ I fo rl (by rw[e1];exact fun z=>nomatch z)) (fun v s1 q=>?_) fun _ _ z=>False.elim z) hs
 obtain⟨d',ws',y,H1,f1,I1,r1,fo1,rl1,E1,i1,hl⟩:=q
 rw[e1] at f1;cases f1
 exact z6l I1 hN hi hx r1 (fun s2 I2=>⟨_,rfl,_,H1,F,I2,fo1,rl1.set_ro i1,E1,List.getElem?_set_ne hij⟩) hf
theorem x3z(he:PEM X w e u)(hsw:swapsWith e none pos.line X.env=pure false:=by rfl):PK X w (.Expr e pos) (gExM w u):=by
 refine⟨fun pins s σ H F Γ I fo rl hg=>?_⟩
 obtain⟨d,ws,e1,_⟩:=okM hg
 have e2:gExM w u Γ = .ok (.nx (Γ.set w (.own ws))):=by unfold gExM;rw[e1]
 rw[e2]
 refine wpAny_Expr_any (wpAny_mono (he.run pins s σ H F Γ I fo rl (by rw[e1];exact fun z=>nomatch z)) (fun v s1 q=>?_) fun _ _ z=>False.elim z) I.quiet hsw
 obtain⟨d',ws',y,H1,f1,I1,r1,fo1,rl1,E1,i1,hl⟩:=q
 rw[e1] at f1;cases f1
 exact⟨_,rfl,σ,H1,F,I1,fo1,rl1,E1,rfl⟩
theorem x5o(m:Nat){apos cpos:Pos}(he:PEM X w e u)(hmw:m≠w:=by decide)(hN:X.N[m]? = some x:=by rfl)(hv:Vis X.env.scope x:=by first | exact Or.inl rfl | exact Or.inr (Or.inl rfl) | exact Or.inr (Or.inr rfl))(hd:(x==("__debug__":Str))=false:=by decide)(hcd:(x==("__classdict__":Str))=false:=by decide)
 (hsw:swapsWith (.Call (.Attribute (.Name x p) "append" apos) [e] [] cpos) none pos.line X.env=pure false:=by rfl)
 (hbase:attributeBase (.Name x p) "append" X.env (eval (.Name x p) X.env)=eval (.Name x p) X.env:=by rfl)
 (hfew:((backTo cpos (starEach [e] X.env)).all (fun x=>!x.1)&&(backToKw cpos (keywordEach [] X.env)).all (fun x=>x.1.isSome)
   && decide ([e].length+([]:List Keyword).length+(if ([]:List Keyword).isEmpty then 0 else 1)<30))=true:=by rfl)
 (hline:(apos.endLine==cpos.line)=true:=by rfl) (hs:starEach [e] X.env=(false,eval e X.env)::starEach [] X.env:=by rfl) :
 PK X w (.Expr (.Call (.Attribute (.Name x p) "append" apos) [e] [] cpos) pos) (y1l m w u):=by
 refine⟨fun pins s σ H F Γ I fo rl hg=>?_⟩
 refine wpAny_Expr_any ?_ I.quiet hsw
 obtain⟨d,ws,e1,h1⟩:=okM hg
 have e2:y1l m w u Γ=(match (Γ.set w (.own ws))[m]? with
  | some (.own ds)=>if ds.length<=100000 then R.ok (Fl.nx ((Γ.set w (.own ws)).set m (.own (ds++[d])))) else .no
  | _=>.no):=by unfold y1l;rw[e1];try rfl
 obtain⟨ds,eo,hl⟩:∃ds,(Γ.set w (.own ws))[m]? = some (.own ds)/\ds.length<=100000:=by
  cases q:(Γ.set w (.own ws))[m]? with
  | none=>rw[q] at h1;exact absurd rfl h1
  | some en =>
    cases en with
    | no=>rw[q] at h1;exact absurd rfl h1
    | ro d'=>rw[q] at h1;exact absurd rfl h1
    | own ds =>
      rw[q] at h1
      by_cases z:ds.length<=100000
      ·exact⟨ds,rfl,z⟩
      ·exact absurd (show(if ds.length<=100000 then R.ok (Fl.nx ((Γ.set w (.own ws)).set m (.own (ds++[d])))) else .no) = .no by rw[if_neg z]) h1
 have e3:y1l m w u Γ = .ok (.nx ((Γ.set w (.own ws)).set m (.own (ds++[d])))):=by rw[e2,eo];dsimp only;rw[if_pos hl]
 rw[e3]
 have eo0:Γ[m]? = some (.own ds):=by rw[List.getElem?_set_ne (Ne.symm hmw)] at eo;exact eo
 obtain⟨a',xs,h1',hF,h3,h4⟩:=rl.own m ds eo0
 refine wpAny_Call_method_late hbase hfew hline rfl (wpAny_mono (z7r (X:=X.nox) hN hv hd hcd pins s σ H (fun v' H'=>v' = .ref a'/\H'=H) (I.wish _) ⟨.ref a',h1',rfl,rfl⟩) (fun v s1 ⟨v',H',I1,r1,e1',e2'⟩=>?_) fun _ _ z=>False.elim z)
 subst e1' e2'
 have I1':=I1.unwish
 obtain⟨t1,t2⟩:=y5j (T:="list") I1' r1 (.inl ⟨rfl,xs,SqL.of h3⟩)
 refine⟨"list",_,PySem.F.plainAttrs_list,PySem.F.slot_list_append,PySem.F.type_list_append,t1,t2,?_⟩
 rw[hs]
 refine Calls.callWith_builtin rfl (Calls.evalArgs_plain ?_)
 show wpAny _ _ (spliced ((false,eval e X.env)::backTo cpos [])) _ _ s1
 refine Calls.spliced_cons (wpAny_mono (he.run pins s1 σ H' F Γ I1' fo rl (by rw[e1];exact fun z=>nomatch z)) (fun u' s2 ⟨d',ws',y,H2,f1,I2,r2,fo2,rl2,E2,i2,hl2⟩=>Calls.spliced_nil ?_) fun _ _ z=>False.elim z)
 rw[e1] at f1;cases f1
 obtain⟨a2,xs2,k1,k2,k3,k4⟩:=rl2.own m ds eo
 rw[h1'] at k1;cases k1
 have hsl:(100001:Nat)<=sizeLine:=by rw[sizeLine_eq];decide
 have hxl:=k4.length
 refine wpAny_mono (y2f (X:=X.nox) pins s2 σ H2 (.ref a') [y] v [u'] (fun z H''=>z = .non/\H''=upd H2 a' (.lst (xs2++[y]))) (I2.wish _) r1 (.cons r2 .nil) ⟨a',xs2,y,rfl,rfl,k3,by lia,rfl,rfl⟩) (fun w' s3 ⟨z,H'',I3,rz,ez,eH⟩=>?_) fun _ _ z=>False.elim z
 subst ez eH
 obtain⟨rl',hF'⟩:=rl2.put eo h1' (xs':=xs2++[y]) (ds':=ds++[d]) (k4.append (IsAll.cons i2 IsAll.nil))
 refine⟨_,rfl,σ,_,F,I3.unwish,fun b hb=>?_,rl',E2.trans ⟨fun b o hb h=>?_,fun b hb=>.inl hb⟩,rfl⟩
 ·by_cases hba:b=a'
  ·exact⟨xs2++[y],by rw[hba];exact z0l⟩
  ·obtain⟨ys,q⟩:=fo2 b hb
   exact⟨ys,by rw[z0s hba];exact q⟩
 ·rw[z0s (fun z=>hb (by rw[z];exact k2))];exact h
theorem y9a(ha:PEM X w a u)(hb:PD X b gb)(hs:y5i b:=by intro _ _;rfl):PEM X w (.Subscript a b pos) (gIxM w u gb):=by
 refine⟨fun pins s σ H F Γ I fo rl hg=>?_⟩
 obtain⟨d,ws,e1,h1⟩:=okMM hg
 cases hgb:gb (Γ.set w (.own ws)) with
 | no=>rw[hgb] at h1;exact absurd rfl h1
 | er c=>rw[hgb] at h1;exact absurd rfl h1
 | ok db =>
   rw[hgb] at h1
   dsimp only at h1
   cases hr:dIx d db with
   | no=>rw[hr] at h1;exact absurd rfl h1
   | er c=>rw[hr] at h1;exact absurd rfl h1
   | ok r =>
     have e2:gIxM w u gb Γ = .ok (r,ws):=by unfold gIxM;rw[e1];dsimp only;rw[hgb];dsimp only;rw[hr]
     rw[e2]
     refine Subscript_ (wpAny_mono (ha.run pins s σ H F Γ I fo rl (by rw[e1];exact fun z=>nomatch z)) (fun v s1 ⟨d',ws',xv,H1,f1,I1,r1,fo1,rl1,E1,i1,hl⟩=>?_) fun _ _ z=>False.elim z)
     rw[e1] at f1;cases f1
     refine wpAny_mono (hb.run pins s1 σ H1 F _ I1 fo1 rl1 (by rw[hgb];exact fun z=>nomatch z)) (fun u2 s2 ⟨dy,y,H2,e4,I2,r2,S2,i2⟩=>?_) fun _ _ ⟨c,_,z,_⟩=>by rw[hgb] at z;cases z
     rw[hgb] at e4;cases e4
     have i1':=i1.same (z2b S2)
     have fin:∀(z:V),Is X.K (hid F H2) r z->∀(w':Value) (s':Shared),EP X.nox pins σ (fun z' H'=>z'=z/\H'=H2) w' s'->x8x X w pins σ H F Γ (.ok (r,ws)) w' s':=fun z iz w' s' ⟨z',H',I',rz,ez,eH⟩=>by
      subst ez eH
      exact⟨r,ws,z',H',rfl,I'.unwish,rz,fo1.same S2,rl1.same S2,E1.trans (.of_same S2),iz,hl⟩
     cases d with
     | tup ds =>
       cases db with
       | int i =>
         obtain⟨q0,xs,rfl,h1',h2⟩:=Is.tup_iff.mp i1'
         cases q:atI ds i with
         | none=>rw[show dIx (.tup ds) (.int i) = .no by simp only[dIx,q]] at hr;cases hr
         | some d0 =>
           rw[show dIx (.tup ds) (.int i) = .ok d0 by simp only[dIx,q]] at hr
           cases hr
           obtain⟨z,ez,iz⟩:=h2.atI q
           exact wpAny_mono (x4k (X:=X.nox) a b pins s2 σ H2 _ y v u2 _ (I2.wish _) r1 r2 ⟨q0,xs,i,z,rfl,Is.int_iff.mp i2,z2e (z1j (F:=F)) h1',ez,rfl,rfl⟩ (hs _ _)) (fun w' s' h=>fin z iz w' s' h) fun _ _ z=>False.elim z
       | _=>cases hr
     | lst ds =>
       cases db with
       | int i =>
         obtain⟨q0,xs,rfl,h1',h2⟩:=Is.lst_iff.mp i1'
         cases q:atI ds i with
         | none=>rw[show dIx (.lst ds) (.int i) = .no by simp only[dIx,q]] at hr;cases hr
         | some d0 =>
           rw[show dIx (.lst ds) (.int i) = .ok d0 by simp only[dIx,q]] at hr
           cases hr
           obtain⟨z,ez,iz⟩:=h2.atI q
           exact wpAny_mono (x0e (X:=X.nox) a b pins s2 σ H2 _ y v u2 _ (I2.wish _) r1 r2 ⟨q0,xs,i,z,rfl,Is.int_iff.mp i2,(z1j (F:=F)).seq h1',ez,rfl,rfl⟩ (hs _ _)) (fun w' s' h=>fin z iz w' s' h) fun _ _ z=>False.elim z
       | _=>cases hr
     | _=>cases hr
theorem y8z{op:CmpOp}{g2:D->D->R D}{cs:List Stmt}(ho:OpD X (compareOp op) g2)(ha:PEM X w a u)(hb:PD X b gb)(hm:behindInMarks op b=false:=by rfl):PK X w (.If (.Compare a [op] [b] pos') cs [] pos) (y4w w (gOpM g2 w u gb)):=by
 refine⟨fun pins s σ H F Γ I fo rl hg=>?_⟩
 obtain⟨bv,ws,e1,h1⟩:=okM (k:=fun d ws=>match d with | .bl false=>R.ok (Fl.nx (Γ.set w (.own ws))) | _=>.no) (r:=gOpM g2 w u gb Γ) (by
  intro z
  refine hg ?_
  unfold y4w
  cases q:gOpM g2 w u gb Γ with
  | no=>rfl
  | er c=>rfl
  | ok r =>
    rw[q] at z
    obtain⟨d,ws⟩:=r
    cases d with
    | bl b=>cases b with
      | true=>rfl
      | false=>cases z
    | _=>rfl)
 cases bv with
 | bl bb =>
   cases bb with
   | true=>exact absurd rfl h1
   | false =>
     have e3:y4w w (gOpM g2 w u gb) Γ = .ok (.nx (Γ.set w (.own ws))):=by unfold y4w;rw[e1]
     rw[e3]
     obtain⟨d,ws1,f1,h2⟩:=okMM (show gOpM g2 w u gb Γ ≠ .no by rw[e1];exact fun z=>nomatch z)
     cases hgb:gb (Γ.set w (.own ws1)) with
     | no=>rw[hgb] at h2;exact absurd rfl h2
     | er c=>rw[hgb] at h2;exact absurd rfl h2
     | ok db =>
       rw[hgb] at h2
       dsimp only at h2
       cases hr:g2 d db with
       | no=>rw[hr] at h2;exact absurd rfl h2
       | er c=>rw[hr] at h2;exact absurd rfl h2
       | ok r =>
         have e2:gOpM g2 w u gb Γ = .ok (r,ws1):=by unfold gOpM;rw[f1];dsimp only;rw[hgb];dsimp only;rw[hr]
         rw[e2] at e1
         cases e1
         refine wpAny_If (wpAny_isTrue_Compare1 (wpAny_mono (ha.run pins s σ H F Γ I fo rl (by rw[f1];exact fun z=>nomatch z)) (fun v s1 ⟨d',ws',xv,H1,f2,I1,r1,fo1,rl1,E1,i1,hl⟩=>?_) fun _ _ z=>False.elim z) hm)
         rw[f1] at f2;cases f2
         refine wpAny_mono (hb.run pins s1 σ H1 F _ I1 fo1 rl1 (by rw[hgb];exact fun z=>nomatch z)) (fun u2 s2 ⟨dy,y,H2,e4,I2,r2,S2,i2⟩=>?_) fun _ _ ⟨c,_,z,_⟩=>by rw[hgb] at z;cases z
         rw[hgb] at e4;cases e4
         refine wpAny_mono (ho.run (E:=fun _ _=>False) I2 r1 r2 ((i1.same (z2b S2)).same (z1j (F:=F))) i2 (by rw[hr];exact fun z=>nomatch z)) (fun z s3 h3=>?_) fun _ _ z=>False.elim z
         obtain⟨bd,bv,H3,e5,I3,r3,S3,i3⟩:=h3
         rw[hr] at e5;cases e5
         rw[Is.bl_iff.mp i3] at r3
         cases (show z=Value.bool false from r3)
         refine wpAny_truthy_bool ?_
         refine wpAny_execs_nil ?_
         exact⟨_,rfl,σ,H3,F,I3,(fo1.same S2).same S3,(rl1.same S2).same S3,(E1.trans (.of_same S2)).trans (.of_same S3),rfl⟩
 | _=>exact absurd rfl h1
theorem y9b{k:Nat}{f:Addr}{fd:FuncData}{ps:List Str}{φ:List D->R D}(Fn:FnD X.prog X.w X.K X.mg X.base k f fd ps φ)(hr:Room k X.A)(hm:X.mg x=some (.ref f))(he:PEM X w e u)(hg:Gl X x:=by rfl)(hdb:(x==("__debug__":Str))=false:=by decide)
 (hs:starEach [e] X.env=(false,eval e X.env)::starEach [] X.env:=by rfl) (hpl:(backTo pos (starEach [] X.env)).any (·.1)=false:=by rfl):PEM X w (.Call (.Name x p) [e] [] pos) (z7l φ u):=by
 refine⟨fun pins s σ H F Γ I fo rl hgg=>?_⟩
 obtain⟨d,ws,e1,h1⟩:=okMM hgg
 cases hφ:φ [d] with
 | no=>rw[hφ] at h1;exact absurd rfl h1
 | er c=>rw[hφ] at h1;exact absurd rfl h1
 | ok r =>
   have e2:z7l φ u Γ = .ok (r,ws):=by unfold z7l;rw[e1];dsimp only;rw[hφ]
   rw[e2]
   refine wpAny_Call_Name_kw (z6f I hg hm ?_ hdb)
   refine PySem.W.callWith_K (h₀:=X.base) I.ok.mod.kin Fn.kp ?_ hs hpl
   rw[hs]
   show wpAny _ _ (spliced ((false,eval e X.env)::backTo pos [])) _ _ s
   refine Calls.spliced_cons (wpAny_mono (he.run pins s σ H F Γ I fo rl (by rw[e1];exact fun z=>nomatch z)) (fun v s1 ⟨d',ws',xv,H1,f1,I1,r1,fo1,rl1,E1,i1,hl⟩=>Calls.spliced_nil ⟨I1.kIn,?_⟩) fun _ _ z=>False.elim z)
   rw[e1] at f1;cases f1
   refine wpAny_mono (x9c Fn hr (EE:=fun _ _=>False) I1 fo1 (.cons r1 .nil) (IsAll.cons i1 IsAll.nil) hφ) (fun u2 s2 ⟨v2,H2,I2,r2,S2,i2⟩=>?_) fun _ _ z=>z
   exact⟨r,ws,v2,H2,rfl,I2,r2,fo1.same S2,rl1.same S2,E1.trans (.of_same S2),i2,hl⟩
end
section
variable {X:Cx}{y x:Str}{scope:Scope}{u:G->R (D×List D)}{w:Nat}
theorem y4e(j:Nat){elt iter:Expr}{px pos pos' apos:Pos}{ifs:List Expr}{f:D->G->R (Option D)}(hi:PEM X w iter u)(hp:PC1 X y scope ifs elt f)(hN:X.N.Nodup)(hcalm:X.calm=true)(hij:j≠w:=by decide)
 (hix:X.N[j]? = some x:=by rfl) (hx:Loc X.env.scope x:=by first | exact Or.inl rfl | exact Or.inr rfl) (hsw:swapsWith (.ListComp elt [⟨.Name y px,iter,ifs,0⟩] scope pos) (some (.Name x pos')) apos.line X.env=pure true:=by rfl) (hf:X.fn x=true∨X.env.scope.names.lookup x=some .local:=by first | exact .inl rfl | exact .inr rfl | assumption)
 (chk:z9u X.N X.env y scope=true:=by rfl) (hclos:closureFor scope X.env=pure (capt X.env scope.names []):=by rfl) (hs:∀x,foldedSetIterable iter X.env x=pure x:=by intro _;rfl) :
 PK X w (.Assign [.Name x pos'] (.ListComp elt [⟨.Name y px,iter,ifs,0⟩] scope pos) apos) (z3u j w u f):=by
 refine⟨fun pins s σ H F Γ I fo rl hg=>?_⟩
 obtain⟨items,ws,total,e1,hl,et,e2⟩:=y2u hg
 rw[e2]
 have c:=z9r chk
 rw[exec_Assign_Name_used _ _ _ _ hsw]
 refine wpAny_bind (wpAny_standAt (wpAny_bind ?_))
 show wpAny _ X.A (do let _ <-comprehension (.ListComp elt [⟨.Name y px,iter,ifs,0⟩] scope pos) scope X.env _ (newList []) false (eval iter X.env) (some (assign (.Name x pos') X.env))) _ _ s
 refine wpAny_bind (wpAny_mono (wpAny_comprehension_free (use:=some (assign (.Name x pos') X.env)) (Q:=fun _ s'=>FlK X pins H F (.ok (.nx ((Γ.set w (.own ws)).set j (.own total)))) (fun σ'=>σ'[w]? = σ[w]?) .next s') rfl hs hclos c.kind c.names
  (wpAny_mono (hi.run pins s σ H F Γ I fo rl (by rw[e1];exact fun z=>nomatch z)) (fun xv s₁ ⟨d',ws',v0,H1,f1,I1,r1,fo1,rl1,E1,i1,hw⟩=>?_) fun _ _ z=>False.elim z)) (fun _ s' hq=>wpAny_pure (wpAny_pure hq)) fun _ _ e=>e)
 rw[e1] at f1;cases f1
 obtain⟨q0,xs0,rfl,h1',h2⟩:=Is.lst_iff.mp i1
 cases (show xv=Value.ref q0 from r1)
 refine y4t (tg:=.Name y px) I1 ((z1j (F:=F)).seq h1') fun it s₂ I2 T t0 fk=>?_
 refine y3g (RR:=fun acc C=>compPost (model X.prog X.w) X.A _ (some (assign (.Name x pos') X.env)) _ acc C) (fun C ps s x H d J _ fo rl e=>hp.run C s₂ H1 _ (X.pn++pins) ps s _ H F _ d J fo rl e) c hN hcalm I2 fo1 rl1 T t0 fk (x0d ((z1j (F:=F)).seq h1') h2) et hl ?_
 intro Dd C xs H' m s' hC hDC hn hn' hnC hD S' ia I' hnsC
 have nlt:∀{b:Addr} {o:Obj},s₂.heap.get? b=some o->b≠C:=fun e=>Nat.ne_of_lt (Nat.lt_of_lt_of_le (Heap.lt_size e) hC)
 have S3:=z1h hn' (.lst xs)
 have ia':IsAll X.K (hid (Dd::F) (upd H' Dd (.lst xs))) total xs:=ia.same fun b o hb=>by
  obtain⟨z1,z2⟩:=z1e hb
  have hbl:b≠Dd:=z0y z2 hn'
  rw[z0k fun z=>(List.mem_cons.mp z).elim hbl z1,z0s hbl]
  exact z2
 have S4:Same H1 (upd H' Dd (.lst xs)):=S'.trans S3
 show wpAny _ X.A (assign (.Name x pos') X.env (.ref Dd)) _ _ s'
 refine wpAny_assign_Name (y1s (v:=.ref Dd) I' hN hix hx rfl (fun s3 I3 hsb=>?_) hf)
 obtain⟨aa,hsb,haa⟩:=hsb
 have haC:aa≠C:=by
  rcases haa with z | z
  ·subst z;exact Nat.ne_of_lt (Nat.lt_of_lt_of_le I2.lt hC)
  ·obtain⟨v,o,ho,_⟩:=I2.cell x aa z;exact nlt ho
 refine⟨m,hnsC.sameBut hsb (Ne.symm haC),fun h'' hs''=>?_⟩
 have I4:Inv X pins (σ.set j (some (.ref Dd))) (upd H' Dd (.lst xs)) { s3 with heap:=h'' }:=I3.turned (t':=s3.toks) (it:=C) (fun b o hb e=>hs''.extBut b o hb e) (by rw[z0s (Ne.symm hDC)];exact hnC) (Nat.ne_of_gt (Nat.lt_of_lt_of_le I2.lt hC)) (.inr (Nat.le_trans I2.sz hC))
  (fun x k e=>by obtain⟨v,o,ho,_⟩:=I2.cell x k e;exact nlt ho) (fun p hp'=>nlt (I2.pin p hp').1)
 exact⟨_,rfl,_,_,Dd::F,I4,(fo1.same S4).cons z0l,rl1.set_own fo1 S4 hn z0l ia',E1.trans ⟨fun b o _ h=>S4 _ _ h,fun b hb=>(List.mem_cons.mp hb).elim (fun z=>.inr (z ▸ hn)) .inl⟩,List.getElem?_set_ne hij⟩
end
section
variable {prog:Program}{w:World}{A:Around}{E:Value->Shared->Prop}{s:Shared}
noncomputable def SetX(prog:Program)(w:World)(led:Bool)(h:Heap)(a:Addr)(S:Str->Bool)(n:Nat):Prop :=
 ∃(o:Obj) (es:Array (Int×Value)) (ep:Nat) (t:SetTable),(h.get? a=some o/\o.ExactSet/\o.data = .set es ep t)/\(ElemsOf (strKind prog w) es.toList/\∀k,S k=true↔∃e∈es.toList,(strKind prog w).is k e.2=true)/\(es.size<scanBound/\t.fits es.size=true/\es.size=n)/\TabK led t
theorem SetX.atQ{led:Bool}{h h':Heap}{a:Addr}{S:Str->Bool}{n:Nat}(x:SetX prog w led h a S n)(e:∀o,h.get? a=some o->h'.get? a=some o):SetX prog w led h' a S n:=by
 obtain⟨o,es,ep,t,⟨q1,q2,q3⟩,rest⟩:=x
 exact⟨o,es,ep,t,⟨e o q1,q2,q3⟩,rest⟩
theorem SetX.likeQ{led:Bool}{h:Heap}{a:Addr}{S S':Str->Bool}{n n':Nat}(x:SetX prog w led h a S n)(e:∀k,S k=S' k)(en:n=n'):SetX prog w led h a S' n':=by
 have:S=S':=funext e
 subst this en
 exact x
theorem y5m{led:Bool}{h:Heap}{a:Addr}{o:Obj}{es es':Array (Int×Value)}{ep:Nat}{t t':SetTable}{S':Str->Bool}(q1:h.get? a=some o)(q2:o.ExactSet)(q3:o.data = .set es ep t)
 (q4:ElemsOf (strKind prog w) es'.toList) (q5:∀k,S' k=true↔∃e∈es'.toList,(strKind prog w).is k e.2=true) (q6:es'.size<scanBound) (q7:t'.fits es'.size=true) (q8:TabK led t') :
 (h.update a (Obj.putSet es' t')).get? a=some { o with data:=.set es' (ep+1) t' }/\SetX prog w led (h.update a (Obj.putSet es' t')) a S' es'.size:=by
 have g:=(SetOf_store (knd:=strKind prog w) q1 q2 q3 q4 q5 q6 q7).1
 exact⟨g,_,es',ep+1,t',⟨g,q2,rfl⟩,⟨q4,q5⟩,⟨q6,q7,rfl⟩,q8⟩
theorem x1j{led:Bool}{g:Bool->Sem Unit}(hg:∀(b:Bool) (s1:Shared) (Q1:Unit->Shared->Prop),Q1 () s1->wpAny (model prog w) A (g b) Q1 E s1)
 {a:Addr} {o:Obj} {es es1:Array (Int×Value)} {ep:Nat} {t t2:SetTable} {S':Str->Bool} {dum:Bool} {Z:Option Bool->Shared->Prop} (q1:s.heap.get? a=some o) (q2:o.ExactSet) (q3:o.data = .set es ep t)
 (q4:ElemsOf (strKind prog w) es1.toList) (q5:∀k,S' k=true↔∃e∈es1.toList,(strKind prog w).is k e.2=true) (q6:es1.size<scanBound) (q7:t2.fits es1.size=true) (q8:TabK led t2)
 (z:∀h',Heap.SameBut a s.heap h'->SetX prog w led h' a S' es1.size->Z (some true) { s with heap:=h' }) :
 wpAny (model prog w) A (do
  storeSet a es1 t2
  if (!dum&&t2.tooFull)=true then do
      g (relayAll t2 es1 (SetTable.grown es1.size)).2.2
      storeSet a (relayAll t2 es1 (SetTable.grown es1.size)).1 (relayAll t2 es1 (SetTable.grown es1.size)).2.1
      pure (some true)
   else pure (some true)) Z E s:=by
 refine wpAny_bind (wpAny_storeSet_of q1 q3 ?_ (fits_of_scanBound q6))
 obtain⟨u1,u2⟩:=y5m (prog:=prog) (w:=w) q1 q2 q3 q4 q5 q6 q7 q8
 have sb:=Heap.SameBut.update s.heap a (Obj.putSet es1 t2)
 by_cases full:(!dum&&t2.tooFull)=true
 ·rw[if_pos full]
  have v1:=relayAll_perm t2 es1 (SetTable.grown es1.size)
  have v2:=relayAll_fits t2 es1 (SetTable.grown es1.size)
  have v3:=q8.relayQ es1 (SetTable.grown es1.size)
  generalize relayAll t2 es1 (SetTable.grown es1.size)=W at v1 v2 v3 ⊢
  obtain⟨es2,t3,gave⟩:=W
  dsimp only at v1 v2 v3 ⊢
  have v4:es2.size=es1.size:=by rw[<-Array.length_toList,v1.length_eq,Array.length_toList]
  have v5:es2.size<scanBound:=by lia
  refine wpAny_bind (hg _ _ _ ?_)
  refine wpAny_bind (wpAny_storeSet_of u1 rfl ?_ (fits_of_scanBound v5))
  obtain⟨_,u3⟩:=y5m (prog:=prog) (w:=w) (S':=S') u1 q2 rfl (q4.perm v1) (fun k=>(q5 k).trans ⟨fun⟨e,he,q⟩=>⟨e,v1.mem_iff.mpr he,q⟩,fun⟨e,he,q⟩=>⟨e,v1.mem_iff.mp he,q⟩⟩) v5 v2 v3
  rw[v4] at u3
  exact wpAny_pure (z _ (sb.trans (Heap.SameBut.update _ a _)) u3)
 ·rw[if_neg full]
  exact wpAny_pure (z _ sb u2)
theorem addX{led:Bool}{a:Addr}{S:Str->Bool}{n:Nat}{k:Str}{x:Value}{Q:Bool->Shared->Prop}(hx:(strKind prog w).is k x=true)(hsc:x.scannable=true)(hS:SetX prog w led s.heap a S n)(room:n+1<scanBound)
 (z:∀h',Heap.SameBut a s.heap h'->SetX prog w led h' a (fun k'=>S k'||decide (k'=k)) (if S k then n else n+1)->Q (!S k) { s with heap:=h' }) :
 wpAny (model prog w) A (setAddHashed a x ((strKind prog w).hash k)) Q E s:=by
 obtain⟨o,es,ep,t,⟨q1,q2,q3⟩,⟨q4,q5⟩,⟨q6,q7,q9⟩,q8⟩:=hS
 have more:es.size+1<scanBound:=by lia
 unfold setAddHashed setAddHashedIn
 refine wpAny_holding (wpAny_bind (wpAny_setState_of q1 q3 q7 ?_))
 dsimp only
 rw[byScan_of hsc q6 q4]
 simp only[↓reduceIte]
 unfold setAddByScan
 refine wpAny_bind (wpAny_bind (wpAny_rule (wpAny_bind (wpAny_setScan_of hx q1 q3 q7 q4 ?_))))
 cases hr:List.findIdx? (fun e=>(strKind prog w).is k e.2) es.toList with
 | some j =>
   dsimp only
   obtain⟨j1,j2,_⟩:=List.findIdx?_eq_some_iff_getElem.mp hr
   have sk:S k=true:=(q5 k).mpr ⟨es.toList[j],List.getElem_mem j1,j2⟩
   refine wpAny_pure (wpAny_pure ?_)
   have e:s={ s with heap:=s.heap }:=by cases s;rfl
   have y:=z s.heap (Heap.SameBut.refl a s.heap) ⟨o,es,ep,t,⟨q1,q2,q3⟩,⟨q4,fun k'=>by
    rw[Bool.or_eq_true,decide_eq_true_eq,<-q5 k']
    exact⟨fun hk=>hk.elim id (fun e=>e ▸ sk),.inl⟩⟩,⟨q6,q7,by rw[sk];exact q9⟩,q8⟩
   rw[sk] at y
   rw[e];exact y
 | none =>
   dsimp only
   have sk:S k=false:=by
    cases hk:S k with
    | false=>rfl
    | true =>
      obtain⟨e,he,hp⟩:=(q5 k).mp hk
      have:=List.findIdx?_eq_none_iff.mp hr e he
      rw[hp] at this;cases this
   have v1:=layNew_perm t es ((strKind prog w).hash k) x
   have v2:=layNew_fits t es ((strKind prog w).hash k) x
   have v3:=q8.layQ es ((strKind prog w).hash k) x
   generalize layNew t es ((strKind prog w).hash k) x=W at v1 v2 v3 ⊢
   obtain⟨es1,t1,dum,gave⟩:=W
   dsimp only at v1 v2 v3 ⊢
   rw[Array.toList_push] at v1
   have len1:es1.size=n+1:=by rw[<-Array.length_toList,v1.length_eq,List.length_append,Array.length_toList,q9];rfl
   have u4:ElemsOf (strKind prog w) es1.toList:=(q4.push hx hsc).perm v1
   have u5:∀k',(S k'||decide (k'=k))=true↔∃e∈es1.toList,(strKind prog w).is k' e.2=true:=mem_push_iff hx q5 v1
   have u6:es1.size<scanBound:=by lia
   have gw:∀(b:Bool) (s1:Shared) (Q1:Unit->Shared->Prop),Q1 () s1->wpAny (model prog w) A (match b with | true=>rule "set.scan.the-table-gave-way" | false=>pure ()) Q1 E s1:=fun b s1 Q1 hq=>by
    cases b
    ·exact wpAny_pure hq
    ·exact wpAny_rule hq
   have fin:∀h',Heap.SameBut a s.heap h'->SetX prog w led h' a (fun k'=>S k'||decide (k'=k)) es1.size->Q true { s with heap:=h' }:=fun h' sb y=>by
    have y2:=z h' sb
    rw[sk] at y2
    rw[len1] at y
    exact y2 y
   refine wpAny_bind (gw _ _ _ ?_)
   by_cases pl:t1.plain=true
   ·rw[if_pos pl]
    refine wpAny_bind ?_
    rw[hashByValue_scannable 8 hsc]
    refine wpAny_pure ?_
    have v2':(if plainKind x=true then t1 else { t1 with plain:=false }).fits es1.size=true:=by
     split
     ·exact v2
     ·exact SetTable.fits_plain_off v2
    have v3':TabK led (if plainKind x=true then t1 else { t1 with plain:=false }):=by
     split
     ·exact v3
     ·exact v3.offQ
    refine x1j gw q1 q2 q3 u4 u5 u6 v2' v3' ?_
    intro h' sb y
    exact wpAny_pure (fin h' sb y)
   ·rw[if_neg pl]
    refine wpAny_bind (wpAny_pure ?_)
    simp only[↓reduceIte]
    refine x1j gw q1 q2 q3 u4 u5 u6 v2 v3 ?_
    intro h' sb y
    exact wpAny_pure (fin h' sb y)
theorem y5y:∀(xs:List Str),(metS xs).length<=xs.length:=fun xs=>by
 induction h:xs.length generalizing xs with
 | zero=>rw[List.length_eq_zero_iff.mp h];exact Nat.le_refl _
 | succ n ih =>
   have hd:xs≠[]:=fun z=>by rw[z] at h;cases h
   rw[<-List.dropLast_concat_getLast hd,z9b]
   have:=ih xs.dropLast (by rw[List.length_dropLast];lia)
   split
   ·lia
   ·rw[List.length_cons];lia
theorem x1m{led:Bool}{Z:Result->Shared->Prop}{I:Addr}{fp wr:List Addr}{G:Array GenState->Array GenState->Prop}{P:Nat->Value->Prop}{St:Nat->Shared->Prop}{ks:List Str}(W:WalksS prog w A.in1 I fp wr G ks.length P St)(a:Addr)(ha:a ∉ fp)
 (hval:∀i v,P i v->∃k t,ks[i]? = some k/\v = .str k t) (hb:ks.length+1<scanBound) :
 ∀(k i:Nat) (s:Shared),ks.length-i=k->i<=ks.length->St i s->SetX prog w led s.heap a (fun k'=>(metS (ks.take i)).any (·==k')) (metS (ks.take i)).length ->
  (∀s',Moved (a::wr) G s s'->SetX prog w led s'.heap a (fun k'=>(metS ks).any (·==k')) (metS ks).length->Z (.ok (.ret .none)) s') ->
  codeAny (model prog w) A (.builtin "set.update.loop" ⟨[.ref a,.ref I],[]⟩) Z s:=by
 have aw:a ∉ wr:=fun h=>ha (W.sub _ h)
 have sub':∀b∈wr,b∈a::wr:=fun b hb=>List.mem_cons_of_mem _ hb
 intro k
 induction k with
 | zero =>
   intro i s hk hi st hS hZ
   obtain rfl:i=ks.length:=by lia
   rw[List.take_length] at hS
   refine codeAny_builtin F.entry_set_update_loop ?_
   rw[Around.under_plainId F.plain_set_update_loop _]
   show wpAny _ A.in1 (pyNext (.ref I)>>=_) _ _ s
   refine wpAny_bind (W.done s _ _ st fun s' mv=>?_)
   exact wpAny_pure (hZ s' (mv.mono sub') (hS.atQ fun o e=>mv.heap a o aw e))
 | succ k ih =>
   intro i s hk hi st hS hZ
   have lt:i<ks.length:=by lia
   refine codeAny_builtin F.entry_set_update_loop ?_
   rw[Around.under_plainId F.plain_set_update_loop _]
   show wpAny _ A.in1 (pyNext (.ref I)>>=_) _ _ s
   refine wpAny_bind (W.item i s _ _ lt st fun v s' hP st' mv=>?_)
   obtain⟨kk,t,hki,rfl⟩:=hval i v hP
   have hS':=hS.atQ fun o e=>mv.heap a o aw e
   show wpAny _ A.in1 (holding [Value.str kk t] (setAdd a (.str kk t))>>=_) _ _ s'
   refine wpAny_bind (wpAny_holding ?_)
   unfold setAdd
   refine wpAny_holding (wpAny_bind ((strKind prog w).pyHash (k:=kk) (strKind_is _ _ _ _) ?_))
   refine addX (s:={ s' with toks:=s'.toks+1 }) (strKind_is _ _ _ _) rfl hS' (by have:=y5y (ks.take i);rw[List.length_take] at this;lia) fun h' sb y=>?_
   have y':SetX prog w led h' a (fun k'=>(metS (ks.take (i+1))).any (·==k')) (metS (ks.take (i+1))).length:=by
    have et:ks.take (i+1)=ks.take i++[kk]:=by rw[List.take_add_one,hki,Option.toList_some]
    have hany:∀(l:List Str) (k':Str),(l.any (·==k'))=decide (k'∈l):=fun l k'=>by
     rw[Bool.eq_iff_iff]
     simp
    refine y.likeQ (fun k'=>?_) ?_
    ·rw[et,z9b,hany,hany]
     by_cases z:kk∈metS (ks.take i)
     ·rw[if_pos z]
      by_cases z2:k'=kk
      ·subst z2;simp[z]
      ·simp[z2]
     ·rw[if_neg z,Bool.eq_iff_iff]
      simp[or_comm]
    ·rw[et,z9b,hany]
     by_cases z:kk∈metS (ks.take i)
     ·rw[if_pos z];simp[z]
     ·rw[if_neg z];simp[z]
   refine wpAny_pure ⟨plainId_quiet F.plain_set_update_loop _,ih (i+1) _ (by lia) lt (W.frame _ s' _ _ st' (Nat.le_succ _) fun b hb o e=>?_) y' fun s'' mv' y''=>?_⟩
   ·rw[sb.2 b (fun z:b=a=>ha (by rw[<-z];exact hb))];exact e
   ·refine hZ s'' (Moved.trans W.gtrans ((mv.mono sub').then_heap (Nat.le_succ _) fun b o hb e=>?_) mv') y''
    rw[sb.2 b (fun z:b=a=>hb (by rw[z];exact List.mem_cons_self))];exact e
theorem x8t{led:Bool}{h:Heap}{a:Addr}(e:h.get? a=some { cls:=.type "set",dict:=none,data:=.set #[] 0 (.fresh 0 0 led) }):SetX prog w led h a (fun _=>false) 0 :=
 ⟨_,#[],0,_,⟨e,⟨rfl,rfl,rfl⟩,rfl⟩,⟨fun e he=>by simp at he,fun k=>by simp⟩,⟨by decide,by rfl,rfl⟩,⟨rfl,rfl,fun _=>.nil⟩⟩
theorem x3i{l:Addr}{lt:List (Str×Tok)}{Q:Value->Shared->Prop}(hh:A.handled=none)(hl:s.heap.IsList l (strValues lt).toArray)(hb:lt.length+1<scanBound)
 (q:∀(h':Heap) (tk:Nat),SetX prog w (z6e w) h' s.heap.objs.size (fun k'=>(metS (lt.map (·.1))).any (·==k')) (metS (lt.map (·.1))).length ->
   (∀b o,b<s.heap.objs.size->s.heap.get? b=some o->h'.get? b=some o)->Q (.ref s.heap.objs.size) { s with heap:=h',toks:=tk }) :
 wpAny (model prog w) A (call (.type "set") [.ref l]) Q E s:=by
 obtain⟨c,tl,hmro⟩:=F.called_set.mro
 have hmade:=F.called_set.made;have hsub:=F.called_set.sub
 refine wpAny_call (codeAny_of_tree (show wpAny _ _ (callAny (.type "set") _) _ _ _ from ?_))
 refine wpAny_pure ⟨Code.quiet_builtin _ (by decide +kernel),codeAny_builtin F.entry_type_call ?_⟩;rw[Around.under_plain (weight_type_call_type "set" [.ref l] []) rfl]
 have h1:=F.called_set.notType;have h2:=F.called_set.canCreate;have hct:=F.typeCall_set_1 (.ref l)
 (repeat (any_goals (first | assumption | wp_step)))
 refine codeAny_mono (newK (.ref l) (E:=E) (Q1:=fun obj s1=>obj = .ref s.heap.objs.size/\s1={ s with heap:=s.heap.push { cls:=.type "set",dict:=none,data:=.set #[] 0 (.fresh 0 0 (z6e w)) } }) ⟨rfl,rfl⟩) fun r s1 hr=>?_
 cases r with
 | error e=>exact hr
 | ok fl =>
   cases fl with
   | ret obj =>
     obtain⟨rfl,rfl⟩:=hr
     have hS:(s.heap.push { cls:=.type "set",dict:=none,data:=.set #[] 0 (.fresh 0 0 (z6e w)) }).get? s.heap.objs.size=some { cls:=.type "set",dict:=none,data:=.set #[] 0 (.fresh 0 0 (z6e w)) }:=Heap.get?_push_size _ rfl
     have hT:Shared.TypeIs { s with heap:=s.heap.push { cls:=.type "set",dict:=none,data:=.set #[] 0 (.fresh 0 0 (z6e w)) } } (.ref s.heap.objs.size) "set":=⟨_,hS,rfl⟩
     have hli:=F.called_set.init.lookup;have hbi:=F.called_set.init.bind (.ref s.heap.objs.size)
     (repeat (any_goals (first | assumption | wp_step)))
     refine codeAny_mono (codeAny_call_builtin (R:=wants (fun r s2=>r = .none/\∃h' tk,s2={ s with heap:=h',toks:=tk } /\
      SetX prog w (z6e w) h' s.heap.objs.size (fun k'=>(metS (lt.map (·.1))).any (·==k')) (metS (lt.map (·.1))).length /\
      (∀b o,b<s.heap.objs.size->s.heap.get? b=some o->h'.get? b=some o)) E) F.called_set.init.plain F.entry_set_init (check_set_init_1 hT ?_)) fun r2 s2 hr2=>?_
     ·obtain⟨⟨ocls,odict,odata,oslots⟩,hol,hcl,nl,hdl⟩:=hl
      simp only at hcl hdl
      subst hcl hdl
      have hol':(s.heap.push { cls:=.type "set",dict:=none,data:=.set #[] 0 (.fresh 0 0 (z6e w)) }).get? l=some { cls:=.type "list",dict:=odict,data:=.seq (strValues lt).toArray nl,slots:=oslots }:=Heap.get?_push_of_some _ hol
      have hsls:=F.sub_list_set;have hslf:=F.sub_list_frozenset
      have hne:(Value.type "list"==Value.type "dict")=false:=by decide
      have hl1:(s.heap.push { cls:=.type "set",dict:=none,data:=.set #[] 0 (.fresh 0 0 (z6e w)) }).IsList l (strValues lt).toArray:=⟨_,hol',rfl,nl,rfl⟩
      unfold Builtin.«set.__init__» noKeywords Builtin.Frozenset.updateFrom;generalize hPI:pyIter=PI
      wp_walk
      subst hPI
      refine wpAny_pyIter_list hl1 (wpAny_bind (wpAny_runValue ?_))
      have hlS:l<s.heap.objs.size:=Heap.lt_size hol
      have hh3:A.in1.in1.in1.handled=none:=by simp[hh]
      have hnI:l≠(s.heap.push { cls:=.type "set",dict:=none,data:=.set #[] 0 (.fresh 0 0 (z6e w)) }).objs.size:=by rw[Heap.size_push];exact Nat.ne_of_lt (Nat.lt_succ_of_lt hlS)
      have hSf:s.heap.objs.size ∉ [(s.heap.push { cls:=.type "set",dict:=none,data:=.set #[] 0 (.fresh 0 0 (z6e w)) }).objs.size,l]:=by
       rw[Heap.size_push];simp only[List.mem_cons,List.mem_singleton,List.not_mem_nil,or_false,not_or];exact⟨Nat.ne_of_lt (Nat.lt_succ_self _),Nat.ne_of_gt hlS⟩
      have W:=(Walks.list (prog:=prog) (w:=w) hh3 _ l hnI (strValues lt).toArray).toS
      have hsz:(strValues lt).toArray.size=(lt.map (·.1)).length:=by unfold strValues;simp
      rw[hsz] at W
      refine x1m (led:=z6e w) W s.heap.objs.size hSf (fun i v hv=>?_) (by rw[List.length_map];exact hb) ((lt.map (·.1)).length-0) 0 _ (by lia) (Nat.zero_le _) ⟨⟨_,Heap.get?_push_size _ rfl,rfl,rfl⟩,(hl1.push _)⟩ ?_ ?_
      ·have hv':lt[i]?.map (fun p=>Value.str p.1 p.2)=some v:=by
        have:(strValues lt)[i]? = some v:=by simpa using hv
        unfold strValues at this
        rw[List.getElem?_map] at this;exact this
       obtain⟨p,hp,rfl⟩:=Option.map_eq_some_iff.mp hv'
       exact⟨p.1,p.2,by rw[List.getElem?_map,hp];rfl,rfl⟩
      ·have hg:((s.heap.push { cls:=.type "set",dict:=none,data:=.set #[] 0 (.fresh 0 0 (z6e w)) }).push { cls:=.type "list_iterator",data:=.fields #[.ref l,.int 0 0] }).get? s.heap.objs.size=some { cls:=.type "set",dict:=none,data:=.set #[] 0 (.fresh 0 0 (z6e w)) }:=Heap.get?_push_of_some _ hS
       exact(x8t hg).likeQ (fun _=>rfl) rfl
      ·intro s' mv y
       obtain⟨h',g',d',tk',os'⟩:=s'
       obtain rfl:g'=s.gens:=mv.gens
       obtain rfl:d'=s.drawn:=mv.drawn
       obtain rfl:os'=s.os:=mv.os
       show wpAny _ _ _ _ _ _
       refine wpAny_pure (show wpAny _ _ (ret Value.none) _ _ _ from wpAny_pure ⟨rfl,h',tk',rfl,y,fun b o hb e=>?_⟩)
       have b1:b≠s.heap.objs.size:=Nat.ne_of_lt hb
       have b2:b≠(s.heap.push { cls:=.type "set",dict:=none,data:=.set #[] 0 (.fresh 0 0 (z6e w)) }).objs.size:=by rw[Heap.size_push];exact Nat.ne_of_lt (Nat.lt_succ_of_lt hb)
       exact mv.heap b o (by simp only[List.mem_cons,List.mem_singleton,List.not_mem_nil,or_false,not_or];exact⟨b1,b2⟩) (Heap.get?_push_of_some _ (Heap.get?_push_of_some _ e))
     ·cases r2 with
      | error e=>exact hr2
      | ok fl2 =>
        cases fl2 with
        | ret r =>
          obtain⟨rfl,h',tk,rfl,y,keep⟩:=hr2
          (repeat (any_goals (first | assumption | wp_step)))
          exact q _ _ y keep
        | _=>exact hr2.elim
   | _=>exact hr.elim
end
section
variable {X:Cx}{a b:Expr}{ga gb:G->R D}{p p2 pos pos':Pos}
theorem x2d(ha:PD X a ga)(hm1:X.mg "len"=none)(hm2:X.mg "set"=none)(hcalm:X.calm=true)(hg1:Gl X "len":=by rfl)(hg2:Gl X "set":=by rfl)
 (hs1:starEach [.Call (.Name "set" p2) [a] [] pos'] X.env=[(false,eval (.Call (.Name "set" p2) [a] [] pos') X.env)]:=by rfl) (hs2:starEach [a] X.env=[(false,eval a X.env)]:=by rfl) :
 PD X (.Call (.Name "len" p) [.Call (.Name "set" p2) [a] [] pos'] [] pos) (y6f ga):=by
 refine⟨fun pins s σ H F Γ I fo rl hgg=>?_⟩
 refine wpAny_Call_Name_kw (z2t I hg1 hm1 (show bootBuiltins (Str.ofString "len")=some (.builtin "len") by decide +kernel) (PyProof.Rows.callWith_builtin1 ?_ hs1 rfl))
 rw[hs1]
 show wpAny _ _ (spliced ((false,eval (.Call (.Name "set" p2) [a] [] pos') X.env)::backTo pos [])) _ _ s
 refine Calls.spliced_cons ?_
 refine wpAny_Call_Name_kw (z2t I hg2 hm2 x3k (PyProof.Rows.callWith_type1 ?_ hs2 rfl))
 rw[hs2]
 show wpAny _ _ (spliced ((false,eval a X.env)::backTo pos' [])) _ _ s
 refine Calls.spliced_cons (wpAny_mono (ha.run pins s σ H F Γ I fo rl (R.left hgg)) (fun u s1 ⟨d,v,H1,e1,I1,r1,S1,i1⟩=>Calls.spliced_nil ?_) fun _ _ x=>x.bind _)
 have hg1':=R.next hgg e1
 cases d with
 | lst ds =>
   cases q:strs? ds with
   | none=>exact absurd (show(match strs? ds with | some xs=>R.guard (xs.length<=1000) (R.ok (D.int (metS xs).length)) | none=>R.no) = .no by rw[q]) hg1'
   | some xs =>
     have hg3:R.guard (xs.length<=1000) (R.ok (D.int (metS xs).length)) ≠ .no:=by
      have h:=hg1'
      dsimp only at h
      rw[q] at h;exact h
     obtain⟨hok,e3⟩:=R.guard_ne hg3
     obtain rfl:=strs?_some q
     obtain⟨l,vs,rfl,h1,h2⟩:=Is.lst_iff.mp i1
     cases (show u=Value.ref l from r1)
     obtain⟨its,rv,pl,hz⟩:=I1.list h1
     obtain⟨lt,rfl,hlt⟩:=z6k h2 rv
     have hh:X.A.handled=none:=I1.ok.hd hcalm
     have hll:lt.length=xs.length:=by rw[<-hlt,List.length_map]
     refine x3i (s:=s1) hh pl.isList (by unfold scanBound;lia) fun h' tk y keep=>Calls.spliced_nil ?_
     obtain⟨o,es,ep,t,⟨w1,w2,w3⟩,_,⟨w6,w7,w8⟩,_⟩:=y
     rw[hlt] at w8
     have hml:=y5y xs
     refine call_len_set (s:={ s1 with heap:=h',toks:=tk }) w1 w2 w3 w7 (by rw[w8];lia) ?_
     have keep':∀b o,s1.heap.get? b=some o->h'.get? b=some o:=fun b o e=>keep b o (Heap.lt_size e) e
     refine⟨.int (metS xs).length,.int (metS xs).length,H1,(R.step e1 _).trans ?_,I1.kept keep',?_,S1,Is.int_iff.mpr rfl⟩
     ·show(match strs? (xs.map D.str) with | some xs=>R.guard (xs.length<=1000) (R.ok (D.int (metS xs).length)) | none=>R.no)=_
      rw[q];exact e3
     ·rw[w8];exact⟨_,rfl⟩
 | _=>exact absurd rfl hg1'
theorem y2d(hu:X.A.units+64<cLine):OpD X (compareOp .NotIn) z7m:=by
 refine⟨fun x y H Q=>∃dx ys,Is X.K H dx x/\Is X.K H (.tup ys) y/\D.lay 40 dx=true/\D.lay 40 (.tup ys)=true/\Q (.bl (!(ys.any fun y=>eqD y dx))) H,?_,fun H x y dx dy ix iy hg=>?_⟩
 ·intro pins s σ H x y v u Q I rx ry h
  obtain⟨dx,ys,ix,iy,l1,l2,q⟩:=h
  obtain⟨as,ra⟩:=z2z I 40 dx x v l1 ix rx
  obtain⟨bs,rb⟩:=z2z I 40 (.tup ys) y u l2 iy ry
  have p1:=z5v 40 dx l1
  have p2:=z5v 40 (.tup ys) l2
  have ey:D.py (.tup ys) = .tuple (D.pys ys):=by simp[D.py]
  rw[ey] at rb p2
  have c2:PyData.canLayAll0 (D.pys ys)=true:=by simpa [PyData.canLay0] using p2.1
  have hu':X.A.units+64<cLine:=hu
  refine y4o (PySem.SeqAt.in_tuple_reads rb ra c2 p1.1 (show X.A.units+1+min (PyData.depthAll (D.pys ys)) dx.py.depth<cLine by lia) ⟨_,rfl,.bl (!(ys.any fun y=>eqD y dx)),H,I,?_,q⟩)
  rw[y6o];rfl
 ·cases dy with
  | tup ys =>
    obtain⟨⟨l1,l2⟩,e⟩:=R.guard_ne (show R.guard (D.lay 40 dx=true/\D.lay 40 (.tup ys)=true) (R.ok (D.bl (!(ys.any fun y=>eqD y dx)))) ≠ .no from hg)
    exact⟨dx,ys,ix,iy,l1,l2,.bl (!(ys.any fun y=>eqD y dx)),e,.refl _,Is.bl_iff.mpr rfl⟩
  | _=>exact absurd rfl hg
end
theorem y9l:typeLookup (.type "list_reverseiterator") "__len__"=pure none:=by rw[typeLookup_type,builtinLookup_eq_fast];kernel_rfl
theorem x2t:typeLookup (.type "list_reverseiterator") "__length_hint__"=pure (some (.builtin "list_reverseiterator.__length_hint__")):=by rw[typeLookup_type,builtinLookup_eq_fast];kernel_rfl
section
variable {prog:Program}{w:World}{A:Around}{E:Value->Shared->Prop}{s:Shared}{R:Result->Shared->Prop}{I:Addr}{fp wr:List Addr}{G:Array GenState->Array GenState->Prop}{n:Nat}{P:Nat->Value->Prop}{St:Nat->Shared->Prop}
theorem x6v(W:WalksS prog w A.in1 I fp wr G n P St)(hT:∀i s,St i s->s.TypeIs (.ref I) "list_reverseiterator")(S:Addr)(res:Value)(c₀:Nat)(hst:St 0 s)(hSf:S ∉ fp)(hI:I∈fp)(hS:s.heap.get? S=some { cls:=.type "list",data:=.seq #[] c₀ })
 (hR:∀s' acc' c',Moved (S::wr) G s s'->s'.heap.get? S=some { cls:=.type "list",dict:=none,data:=.seq acc' c',slots:=#[] }->ItemsOf P acc' n->R (.ok (.ret res)) s') (hn:n<=sizeLine) :
 wpAny (model prog w) A.in1 (Builtin.List.listExtendWith (.ref S) (.ref I) res)
  (fun fin s'=>match fin with | .done f=>R (.ok f) s' | .again c'=>c'.quiet=true/\codeAny (model prog w) A c' R s') (fun e s'=>R (.error e) s') s:=by
 have hSI:S≠I:=fun e=>hSf (e ▸ hI)
 unfold Builtin.List.listExtendWith
 refine wpAny_bind (wpAny_typeOf (hT 0 _ hst) ?_)
 have h1:Builtin.List.listSameRef (.ref S) (.ref I)=false:=by simp[Builtin.List.listSameRef,hSI]
 have h2:(Value.type "list_reverseiterator"==Value.type "list")=false:=by decide
 have h3:(Value.type "list_reverseiterator"==Value.type "tuple")=false:=by decide
 simp only[h1,h2,h3,Bool.or_false,Bool.false_eq_true,if_false]
 refine wpAny_bind (W.self 0 _ _ _ hst ?_)
 refine wpAny_bind (wpAny_holding ?_)
 unfold Builtin.List.listLengthHint
 refine wpAny_bind (wpAny_specialOf (hT 0 _ hst) y9l ?_)
 show wpAny _ A.in1 (specialOf (Value.ref I) (Str.ofString "__length_hint__")>>=_) _ _ _
 refine wpAny_bind (wpAny_specialOf (hT 0 _ hst) x2t ?_)
 (generalize hid:("list_reverseiterator.__length_hint__":String)=id0;wp_delta;rw[show splitId id0=some ("list_reverseiterator","__length_hint__") from by subst hid;decide +kernel];subst hid)
 refine wpAny_bind (wpAny_isInstance (b:=true) (hT 0 _ hst) (by rw[isSubtype_type];kernel_rfl) ?_)
 refine wpAny_pure ?_
 rw[if_neg (by decide)]
 exact wpAny_pure ⟨plainId_quiet PySem.F.plain_extend_loop _,codeAny_extend_loopS W hn _ hSf _ n 0 _ _ _ rfl (Nat.zero_le _) hst hS (ItemsOf.nil P) fun s' acc' c' hm hS' hacc=>hR s' acc' c' hm hS' hacc⟩
theorem x2m{l:Addr}{items:Array Value}{Q:Value->Shared->Prop}(hh:A.handled=none)(hl:s.heap.IsList l items)(hr:s.heap.IsRevIter I l ((items.size:Int)-1))(hz:items.size<=sizeLine)
 (hQ:∀(h':Heap) (tk:Nat) acc' c',(∀b o,b≠I->s.heap.get? b=some o->h'.get? b=some o)->h'.get? s.heap.objs.size=some { cls:=.type "list",dict:=none,data:=.seq acc' c',slots:=#[] }->ItemsOf (fun i v=>items[items.size-1-i]? = some v) acc' items.size->Q (.ref s.heap.objs.size) { s with heap:=h',toks:=tk }) :
 wpAny (model prog w) A (call (.type "list") [.ref I]) Q E s:=by
 have hne:l≠I:=fun e=>by
  obtain⟨o,ho,hc,_⟩:=hl
  obtain⟨o',ho',hc',_⟩:=hr
  rw[e,ho'] at ho;cases ho
  rw[hc] at hc';exact absurd hc' (by decide)
 have ltI:I<s.heap.objs.size:=let ⟨o,ho,_⟩:=hr;Heap.lt_size ho
 have ltl:l<s.heap.objs.size:=let ⟨o,ho,_⟩:=hl;Heap.lt_size ho
 have hSf:s.heap.objs.size ∉ [I,l]:=by
  simp only[List.mem_cons,List.not_mem_nil,or_false,not_or]
  exact⟨Nat.ne_of_gt ltI,Nat.ne_of_gt ltl⟩
 refine callType_codes (Q₁:=fun obj s₁=>obj = .ref s.heap.objs.size/\s₁={ s with heap:=s.heap.push { cls:=.type "list",data:=.seq #[] } }) PySem.F.called_list (PySem.F.typeCall_list_1 _) PySem.F.entry_list_init
  (code_list_new _ ⟨rfl,rfl⟩) fun obj s₁ h₁=>?_
 obtain⟨rfl,rfl⟩:=h₁
 have hS:(s.heap.push { cls:=.type "list",data:=.seq #[] }).get? s.heap.objs.size=some { cls:=.type "list",data:=.seq #[] }:=Heap.get?_push_size _ rfl
 refine⟨⟨_,hS,rfl⟩,PySem.F.args_list_init_2 _ _,?_⟩
 show wpAny _ _ (do let old <-Builtin.List.listItems (.ref s.heap.objs.size);Builtin.List.listUpdate (.ref s.heap.objs.size) (fun _=>#[]);letGo old.toList.reverse;Builtin.List.listExtendWith (.ref s.heap.objs.size) (.ref I) .none) _ _ _
 refine wpAny_bind ?_
 unfold Builtin.List.listItems
 refine wpAny_bind (wpAny_seqItems hS rfl (wpAny_pure ?_))
 show wpAny _ _ (updateSeq s.heap.objs.size (fun _=>#[])>>=fun _=>letGo (#[]:Array Value).toList.reverse>>=fun _=>Builtin.List.listExtendWith (.ref s.heap.objs.size) (.ref I) .none) _ _ _
 refine wpAny_bind (wpAny_updateSeq hS rfl ?_)
 have hS₂:=Heap.get?_update_self (Obj.mapSeq (fun _=>(#[]:Array Value))) hS rfl
 have oth:∀b o,b<s.heap.objs.size->s.heap.get? b=some o->((s.heap.push { cls:=.type "list",data:=.seq #[] }).update s.heap.objs.size (Obj.mapSeq (fun _=>(#[]:Array Value)))).get? b=some o :=
  fun b o hb e=>(Heap.get?_update_other _ _ (Nat.ne_of_gt hb)).trans (Heap.get?_push_of_some _ e)
 refine wpAny_bind (wpAny_letGo ?_)
 have W:=(Walks.listRev (prog:=prog) (w:=w) (A:=A.in1.in1) (by simp[hh]) I l hne items).toS
 refine x6v W (fun i s st=>st.2.1.typeIs) s.heap.objs.size .none _ ?_ hSf (by simp) hS₂ (fun s' acc' c' hm hS' hacc=>?_) hz
 ·refine⟨Nat.zero_le _,?_,?_⟩
  ·show Heap.IsRevIter _ I l ((items.size:Int)-1-((0:Nat):Int))
   rw[show((items.size:Int)-1-((0:Nat):Int))=(items.size:Int)-1 by lia]
   exact hr.at fun o e=>oth I o ltI e
  ·obtain⟨o,ho,r⟩:=hl
   exact⟨o,oth l o ltl ho,r⟩
 ·rw[Moved.eq_with hm]
  exact⟨rfl,hQ s'.heap s'.toks acc' c' (fun b o hb e=>hm.heap b o (by
   simp only[List.mem_cons,List.not_mem_nil,or_false,not_or]
   exact⟨Nat.ne_of_lt (Heap.lt_size e),hb⟩) (oth b o (Heap.lt_size e) e)) hS' hacc⟩
end
section
variable {prog:Program}{w:World}{A:Around}{E:Value->Shared->Prop}
theorem x6o{items:Array Value}{x:Str}{t:Tok}{j:Nat}{f:Nat->Option PySem.Fin×Unit->Sem (ForInStep (Option PySem.Fin×Unit))}{Q:Option PySem.Fin×Unit->Shared->Prop}
 (hf:∀i r,f i r=(match items[i]? with
   | some y=>eqBool y (.str x t)>>=fun c=>if c=true then retInt (i:Int)>>=fun r=>pure (.done (some r,())) else pure (.yield (none,()))
   | none=>pure (.yield (none,()))))
 (hj:∃u,items[j]? = some (.str x u)) (hno:∀m,m<j->∃y u,items[m]? = some (.str y u)/\y≠x) {s:Shared}
 (h:Q (some (.done (.ret (.int (j:Int) s.toks))),()) { s with toks:=s.toks+1 }):∀k n:Nat,n<=j->j<n+k->wpAny (model prog w) A (forIn (List.range' n k) ((none,()):Option PySem.Fin×Unit) f) Q E s:=by
 intro k
 induction k with
 | zero=>intro n h1 h2;lia
 | succ k ih =>
   intro n h1 h2
   rw[List.range'_succ,List.forIn_cons,hf]
   by_cases e:n=j
   ·subst e
    obtain⟨u,eu⟩:=hj
    rw[eu]
    refine wpAny_bind (wpAny_bind (wpAny_eqBool_str ?_))
    rw[if_pos (by simp)]
    unfold retInt
    obtain⟨hp,g,dd,tk,os⟩:=s
    wp_walk
    exact h
   ·obtain⟨y,u,eu,ne⟩:=hno n (by lia)
    rw[eu]
    refine wpAny_bind (wpAny_bind (wpAny_eqBool_str ?_))
    rw[if_neg (by simpa using ne)]
    refine wpAny_pure ?_
    exact ih (n+1) (by lia) (by lia)
theorem x2r{items:Array Value}{x:Str}{t:Tok}{j:Nat}{f:Nat->Option PySem.Fin×Unit->Sem (ForInStep (Option PySem.Fin×Unit))}{Q:Option PySem.Fin×Unit->Shared->Prop}
 (hf:∀i r,f i r=(match items[i]? with
   | some y=>eqBool y (.str x t)>>=fun c=>if c=true then retInt (i:Int)>>=fun r=>pure (.done (some r,())) else pure (.yield (none,()))
   | none=>pure (.yield (none,()))))
 (hj:∃u,items[j]? = some (.str x u)) (hno:∀m,m<j->∃y u,items[m]? = some (.str y u)/\y≠x) {s:Shared}
 (h:Q (some (.done (.ret (.int (j:Int) s.toks))),()) { s with toks:=s.toks+1 }):wpAny (model prog w) A (forIn [:min items.size items.size] ((none,()):Option PySem.Fin×Unit) f) Q E s:=by
 rw[Std.Legacy.Range.forIn_eq_forIn_range',show List.range' ([:min items.size items.size]:Std.Legacy.Range).start ([:min items.size items.size]:Std.Legacy.Range).size ([:min items.size items.size]:Std.Legacy.Range).step=List.range' 0 (min items.size items.size) by simp[Std.Legacy.Range.size]]
 exact x6o hf hj hno h _ 0 (Nat.zero_le _) (by obtain⟨u,eu⟩:=hj;have:=(Array.getElem?_eq_some_iff.mp eu).1;lia)
theorem y8e{items:Array Value}{l:Addr}{x:Str}{t:Tok}{j:Nat}{Q:PySem.Fin->Shared->Prop}{s:Shared}(hl:IsTup s.heap l items)
 (hj:∃u,items[j]? = some (.str x u)) (hno:∀m,m<j->∃y u,items[m]? = some (.str y u)/\y≠x)
 (h:Q (.done (.ret (.int (j:Int) s.toks))) { s with toks:=s.toks+1 }):wpAny (model prog w) A (Builtin.«tuple.index» ⟨[.ref l,.str x t],[]⟩) Q E s:=by
 obtain⟨o,e,c,n,d⟩:=hl
 unfold Builtin.«tuple.index» Builtin.Tuple.tupleItemsOf
 obtain⟨hp,g,dd,tk,os⟩:=s
 wp_walk using wpAny_loadPart' e
 rw[d]
 wp_walk
 refine x2r (items:=items) (x:=x) (t:=t) (j:=j) (fun i r=>?_) hj hno (wpAny_pure h)
 cases items[i]? <;> rfl
end
section
variable {X:Cx}{e a b:Expr}{g ga gb:G->R D}{p p' pos pos' apos cpos:Pos}
theorem y1p:z5i X (.type "int") (fun xs H Q=>∃x n,xs=[.str x]/\x.length<=640/\intText? x=some n/\Q (.int n) H):=by
 intro pins s σ H xs us Q I r h
 obtain⟨x,n,rfl,hl,hn,q⟩:=h
 obtain⟨u,rfl,t,rfl⟩:=y0v r
 exact PySem.W.KIN.call_text hn hl ⟨.int n,H,I.tok _,⟨_,rfl⟩,q⟩
theorem x7a:z7o X (.type "int") x0w:=by
 refine⟨_,y1p (X:=X.nox),fun H xs ds i hg=>?_⟩
 unfold x0w at hg
 split at hg
 ·rename_i x
  obtain⟨v,rfl,h⟩:=z4t i
  obtain⟨hz,e⟩:=R.guard_ne hg
  cases Is.str_iff.mp h
  cases hn:intText? x with
  | none=>rw[hn] at hg;rw[R.guard_pos hz] at hg;exact absurd rfl hg
  | some n=>exact⟨x,n,rfl,hz,hn,.int n,e.trans (by rw[hn]),.refl _,Is.int_iff.mpr rfl⟩
 ·exact absurd rfl hg
theorem y7g(ha:PD X a ga)(hmr:X.mg "reversed"=none)(hm:X.mg "list"=none)(hc:X.calm=true)(hgr:Gl X "reversed":=by rfl)(hg:Gl X "list":=by rfl)(hs:starEach [a] X.env=[(false,eval a X.env)]:=by rfl)
 (he:starEach [Expr.Call (.Name "reversed" p') [a] [] pos'] X.env=[(false,eval (.Call (.Name "reversed" p') [a] [] pos') X.env)]:=by rfl):PF X (.Call (.Name "list" p) [.Call (.Name "reversed" p') [a] [] pos'] [] pos) (z6y ga):=by
 refine⟨fun pins s σ H F Γ I fo rl hgg=>?_⟩
 refine wpAny_Call_Name_kw (z2t I hg hm (by decide +kernel:bootBuiltins "list"=some (.type "list")) ?_ (by decide) (by decide))
 refine PyProof.Rows.callWith_type1 ?_ he rfl
 rw[he]
 show wpAny _ _ (spliced ((false,eval (.Call (.Name "reversed" p') [a] [] pos') X.env)::backTo pos [])) _ _ s
 refine Calls.spliced_cons ?_
 refine Call_ (z2t I hgr hmr x3l (PyProof.Rows.callWith_type1 ?_ hs rfl))
 rw[hs]
 show wpAny _ _ (spliced ((false,eval a X.env)::backTo pos' [])) _ _ s
 refine Calls.spliced_cons (wpAny_mono (ha.run pins s σ H F Γ I fo rl (R.left hgg)) (fun u s1 ⟨d,v,H1,e1,I1,r1,S1,i1⟩=>Calls.spliced_nil ?_) fun _ _ x=>x.bind _)
 have hg1:=R.next hgg e1
 cases d with
 | lst ds =>
   obtain⟨⟨h3,hnl⟩,e3⟩:=R.guard_ne (show R.guard (ds.length<=100000/\D.noLs ds=true) (R.ok ds.reverse) ≠ .no from hg1)
   obtain⟨l,xs,rfl,q1,j1⟩:=Is.lst_iff.mp i1
   cases (show u=Value.ref l from r1)
   obtain⟨its,rv,pl,hz⟩:=I1.list q1
   have hlen:=rv.length
   refine call_reversed_list pl.isList (Calls.spliced_nil ?_)
   have a1:(s1.heap.push (revObj l ((its.toArray.size:Int)-1))).IsRevIter s1.heap.objs.size l ((its.toArray.size:Int)-1):=⟨_,Heap.get?_push_size _ rfl,rfl,rfl⟩
   have hl1:(s1.heap.push (revObj l ((its.toArray.size:Int)-1))).IsList l its.toArray:=pl.isList.push _
   refine x2m (s:={ s1 with heap:=s1.heap.push (revObj l ((its.toArray.size:Int)-1)) }) (I1.ok.hd hc) hl1 a1 (by rw[List.size_toArray,<-hlen];exact hz) fun h' tk acc' c' kp hl hacc=>?_
   have hsz:(s1.heap.push (revObj l ((its.toArray.size:Int)-1))).objs.size=s1.heap.objs.size+1:=by rw[Heap.size_push]
   have kp':∀b o,s1.heap.get? b=some o->h'.get? b=some o:=fun b o e=>kp b o (Nat.ne_of_lt (Heap.lt_size e)) (Heap.get?_push_of_some _ e)
   have hge:s1.heap.objs.size<=(s1.heap.push (revObj l ((its.toArray.size:Int)-1))).objs.size:=by rw[hsz];exact Nat.le_succ _
   have hfr:H1 (s1.heap.push (revObj l ((its.toArray.size:Int)-1))).objs.size=none:=I1.hok.fresh hge
   have hacl:acc'.toList=its.reverse:=by
    refine List.ext_getElem? fun j=>?_
    have h1:acc'.size=its.length:=by have:=hacc.1;simpa using this
    by_cases hj:j<its.length
    ·have h2:acc'[j]? = some acc'[j]:=Array.getElem?_eq_getElem (by lia)
     have h4:=hacc.2 j acc'[j] h2
     rw[Array.getElem?_toList,h2,List.getElem?_reverse hj]
     rw[<-h4]
     simp
    ·rw[List.getElem?_eq_none (by simp;lia),List.getElem?_eq_none (by simp;lia)]
   have hv:Vals xs.reverse acc'.toList:=by rw[hacl];exact rv.reverse
   have I2:Inv X pins σ (upd H1 _ (.lst xs.reverse)) { s1 with heap:=h',toks:=tk }:=I1.laid (t':=tk) kp' hge (show z4x X.prog X.w _ _ _ (.lst xs.reverse) from⟨by rw[List.length_reverse];exact hz,acc'.toList,c',hv,by rw[Array.toArray_toList];exact hl⟩)
   have S2:=z1h hfr (.lst xs.reverse)
   refine⟨ds.reverse,_,xs.reverse,_,(R.step e1 _).trans e3,I2,rfl,S1.trans S2,S1.free hfr,z0l,?_⟩
   refine(IsAll.reverseT (IsAll.hid (fo.same S1) ds xs hnl j1)).same fun b o hb=>?_
   obtain⟨z1,z2⟩:=z1e hb
   have hbl:=z0y z2 hfr
   rw[z0k fun z=>(List.mem_cons.mp z).elim hbl z1,z0s hbl]
   exact z2
 | _=>exact absurd rfl hg1
theorem y9d(ha:PD X e ga)(hb:PD X b gb)
 (hbase:attributeBase e "index" X.env (eval e X.env)=eval e X.env:=by rfl)
 (hfew:((backTo cpos (starEach [b] X.env)).all (fun x=>!x.1)&&(backToKw cpos (keywordEach [] X.env)).all (fun x=>x.1.isSome)
   && decide ([b].length+([]:List Keyword).length+(if ([]:List Keyword).isEmpty then 0 else 1)<30))=true:=by rfl)
 (hline:(apos.endLine==cpos.line)=true:=by rfl) (hs:starEach [b] X.env=(false,eval b X.env)::starEach [] X.env:=by rfl) :
 PD X (.Call (.Attribute e "index" apos) [b] [] cpos) (z9h ga gb):=by
 refine⟨fun pins s σ H F Γ I fo rl hg=>?_⟩
 refine wpAny_Call_method_late hbase hfew hline rfl (wpAny_mono (ha.run pins s σ H F Γ I fo rl (R.left hg)) (fun v s1 ⟨dl,vl,H1,e1,I1,r1,S1,i1⟩=>?_) fun _ _ x=>x.bind _)
 have hg1:=R.next hg e1
 cases dl with
 | tup ds =>
   have hgb:=R.left hg1
   obtain⟨l,vs,rfl,q1,j1⟩:=Is.tup_iff.mp i1
   cases (show v=Value.ref l from r1)
   obtain⟨_,_,⟨o1,ho1,hc1,_,hd1⟩,_⟩:=I1.tupleN q1
   have t1:s1.TypeIs (.ref l) "tuple":=⟨o1,ho1,hc1⟩
   have t2:∀a,Value.ref l = .ref a->∃ob,s1.heap.get? a=some ob/\ob.dict=none:=fun a e=>by
    cases e
    exact⟨o1,ho1,(Prod.mk.inj hd1).2⟩
   refine⟨"tuple",_,PySem.F.plainAttrs_tuple,PySem.F.slot_tuple_index,PySem.F.type_tuple_index,t1,t2,?_⟩
   rw[hs]
   refine Calls.callWith_builtin rfl (Calls.evalArgs_plain ?_)
   show wpAny _ _ (spliced ((false,eval b X.env)::backTo cpos [])) _ _ s1
   refine Calls.spliced_cons (wpAny_mono (hb.run pins s1 σ H1 F Γ I1 (fo.same S1) (rl.same S1) hgb) (fun u s2 ⟨d,y,H2,e2,I2,r2,S2,i2⟩=>Calls.spliced_nil ?_) fun _ _ x=>z1a.later e1 S1 (x.bind _))
   have hg2:=R.next hg1 e2
   cases d with
   | str x =>
     cases qs:strs? ds with
     | none=>exact absurd (show(match strs? ds with | some xs=>z3v xs x | none=>R.no) = .no by rw[qs]) hg2
     | some xs =>
       have hg3:z3v xs x ≠ .no:=by
        have h:=hg2
        dsimp only at h
        rw[qs] at h;exact h
       obtain rfl:=strs?_some qs
       cases hf:xs.findIdx? (·==x) with
       | none=>exact absurd (show z3v xs x = .no by unfold z3v;rw[hf]) hg3
       | some j =>
         have hg4:R.guard (xs.length<=1000) (R.ok (D.int (j:Int))) ≠ .no:=by
          have h:=hg3
          unfold z3v at h
          rw[hf] at h;exact h
         obtain⟨hl,e4⟩:=R.guard_ne hg4
         obtain⟨its,rv,pl,hz⟩:=I2.tuple (z2e S2 q1)
         obtain⟨lt,rfl,hlt⟩:=z6k (j1.same S2) rv
         cases Is.str_iff.mp i2
         obtain⟨t,rfl⟩:=r2
         obtain⟨o,ho,hc,n,hd⟩:=(show s2.heap.IsTuple l (strValues lt).toArray from pl)
         have fin:∀tk,Post X pins σ H (z9h ga gb Γ) (.int (j:Int) s2.toks) { s2 with toks:=tk }:=fun tk =>
          Post.bind e1 S1 (Post.bind e2 S2 ⟨.int (j:Int),.int (j:Int),H2,by
           show(match strs? (xs.map D.str) with | some xs=>z3v xs x | none=>R.no)=_
           rw[qs]
           show z3v xs x=_
           unfold z3v;rw[hf];exact e4,I2.tok _,⟨s2.toks,rfl⟩,.refl _,Is.int_iff.mpr rfl⟩)
         obtain⟨hj,hjt,hjn⟩:=List.findIdx?_eq_some_iff_getElem.mp hf
         have at_:∀m (hm:m<xs.length),∃u,(strValues lt).toArray[m]? = some (.str xs[m] u):=fun m hm=>by
          subst hlt
          have hm':m<lt.length:=by simpa using hm
          exact⟨lt[m].2,by simp[strValues,hm']⟩
         refine wpAny_call_entry PySem.F.slot_tuple_index ⟨o,ho,hc⟩ PySem.F.entry_tuple_index (y8e (j:=j) pl ?_ ?_ ⟨_,rfl,fin _⟩) (PySem.F.args_tuple_index_2 _ _)
         ·obtain⟨u,e⟩:=at_ j hj
          exact⟨u,by rw[e,show xs[j]=x by simpa using hjt]⟩
         ·intro m hm
          obtain⟨u,e⟩:=at_ m (by lia)
          exact⟨xs[m],u,e,by simpa using hjn m hm⟩
   | _=>exact absurd rfl hg2
 | _=>exact absurd rfl hg1
end
structure PWe (X:Cx) (i:Nat) (b:List Stmt) (g:G->R (D×List D)):Prop where
 run:∀(pins:List (Addr×Obj)) (s:Shared) (σ:St) (H:Hp) (F:List Addr) (Γ:G),Inv X pins σ H s->FOk H F->Rel X.K H F Γ σ->g Γ ≠ .no ->
  wpAny (model X.prog X.w) X.A (execs b X.env) (fun fl s'=>∃u,(fl = .ret u∨(fl = .next/\u = .none))/\∃d ws v σ' H' F' l zs,g Γ = .ok (d,ws)/\Inv X pins σ' H' s'/\RelV v u/\Ext H F H' F'/\σ[i]? = some (some (.ref l))/\H' l=some (.lst zs)/\l∈F'/\IsAll X.K (hid F' H') ws zs/\Is X.K (hid F' H') d v) (fun _ _=>False) s
section
variable {X:Cx}{b:List Stmt}{st:Stmt}{t:G->R Fl}{u:G->R (D×List D)}{i:Nat}{pos:Pos}
theorem PW.e(h:PW X i b u):PWe X i b u:=⟨fun pins s σ H F Γ I fo rl hg=>wpAny_mono (h.run pins s σ H F Γ I fo rl hg) (fun fl s' ⟨u,e,r⟩=>⟨u,.inl e,r⟩) fun _ _ z=>z⟩
theorem PKs.e(h:PKs X i b t):PWe X i b (z4h i t):=by
 refine⟨fun pins s σ H F Γ I fo rl hg=>?_⟩
 cases ht:t Γ with
 | no=>exact absurd (show z4h i t Γ = .no by unfold z4h;rw[ht]) hg
 | er c=>exact absurd (show z4h i t Γ = .no by unfold z4h;rw[ht]) hg
 | ok f =>
   cases f with
   | nx Γ1 =>
     have e2:z4h i t Γ=(match Γ1[i]? with | some (.own ws)=>R.ok (D.non,ws) | _=>R.no):=by unfold z4h;rw[ht];try rfl
     rw[e2] at hg ⊢
     obtain⟨ws,hw⟩:=x4c hg
     refine wpAny_mono (h.run pins s σ H F Γ I fo rl (by rw[ht];exact fun z=>nomatch z)) (fun fl s1 q=>?_) fun x s1 q=>?_
     ·rw[ht] at q
      cases fl with
      | next =>
        obtain⟨Γ',e,σ',H',F',I',fo',rl',E,k⟩:=q
        cases e
        obtain⟨l,zs,hσ,hF,hH,hia⟩:=rl'.own i ws hw
        exact⟨.none,.inr ⟨rfl,rfl⟩,.non,ws,.non,σ',H',F',l,zs,by rw[hw],I',rfl,E,by rw[<-k];exact hσ,hH,hF,hia,Is.non_iff.mpr rfl⟩
      | ret v=>exact(by obtain⟨v',σ',H',F',_,_,_,⟨d,z,_⟩ | ⟨_,_,_,z,_⟩⟩:=q<;>cases z)
      | brk=>exact(by obtain⟨Γ',z,_⟩:=q;cases z)
      | cont=>exact(by obtain⟨Γ',z,_⟩:=q;cases z)
     ·rw[ht] at q
      obtain⟨c,Γ',σ',H',F',z,_⟩:=q
      cases z
   | rt d=>exact absurd (show z4h i t Γ = .no by unfold z4h;rw[ht]) hg
   | rtF d=>exact absurd (show z4h i t Γ = .no by unfold z4h;rw[ht]) hg
   | bk d=>exact absurd (show z4h i t Γ = .no by unfold z4h;rw[ht]) hg
   | ct d=>exact absurd (show z4h i t Γ = .no by unfold z4h;rw[ht]) hg
   | ex c d=>exact absurd (show z4h i t Γ = .no by unfold z4h;rw[ht]) hg
theorem y4d:PKs X i b gNev:=⟨fun _ _ _ _ _ _ _ _ _ h=>absurd rfl h⟩
theorem x3v:PW X i b x6u:=⟨fun _ _ _ _ _ _ _ _ _ h=>absurd rfl h⟩
theorem PK.pq(h:PK X i st t):PQ X st t:=⟨fun pins s σ H F Γ I fo rl hg=>wpAny_mono (h.run pins s σ H F Γ I fo rl hg) (fun fl s' q=>by
 cases fl with
 | next=>obtain⟨Γ',e,σ',H',F',h1,h2,h3,h4,_⟩:=q;exact⟨Γ',e,σ',H',F',h1,h2,h3,h4⟩
 | brk=>obtain⟨Γ',e,σ',H',F',h1,h2,h3,h4,_⟩:=q;exact⟨Γ',e,σ',H',F',h1,h2,h3,h4⟩
 | cont=>obtain⟨Γ',e,σ',H',F',h1,h2,h3,h4,_⟩:=q;exact⟨Γ',e,σ',H',F',h1,h2,h3,h4⟩
 | ret v=>exact q) fun _ _ q=>q⟩
theorem x5i{h₀:ExceptHandler}{hs:List ExceptHandler}(hb:PQs X b t):PQ X (.Try b (h₀::hs) [] [] pos) (gNoX t):=by
 refine⟨fun pins s σ H F Γ I fo rl hg=>?_⟩
 have ht:t Γ ≠ .no:=fun z=>hg (by unfold gNoX;rw[z])
 have hx:∀c Γ',t Γ ≠ .ok (.ex c Γ'):=fun c Γ' z=>hg (by unfold gNoX;rw[z])
 have he:gNoX t Γ=t Γ:=by
  unfold gNoX
  split
  ·rename_i c Γ' z;exact absurd z (hx c Γ')
  ·rfl
 rw[he]
 refine wpAny_Try_except (wpAny_mono (hb.run pins s σ H F Γ I fo rl ht) (fun f s1 q=>?_) fun xe s1 q=>?_)
 ·cases f with
  | next=>exact wpAny_execs_nil q
  | brk=>exact q
  | cont=>exact q
  | ret v=>exact q
 ·obtain⟨c,Γ1,_,_,_,e1,_⟩:=q
  exact absurd e1 (hx c Γ1)
theorem y9e{x z:Str}{u:Value}(hm:X.mg x=some u)(hu:∃t,u = .str z t)(hg:Gl X x:=by rfl)(hd:(x==("__debug__":Str))=false:=by decide):PD X (.Name x pos) (gC (.str z)) :=
 y9f hg hm (v:=.str z) hu (fun _=>Is.str_iff.mpr rfl) hd
end
section
variable {P:Program}{w:World}{K:PySem.W.Frag}{mg:Str->Option Value}{base:Heap}
theorem z9i{x qual:Str}{st:Stmt}{f:Addr}{fd:FuncData}{N ps:List Str}{k i:Nat}{φ:List D->R (D×List D)}(Fu:Fun K x qual st f fd)(S:FnScope N ps (z0g st))(hb:z6h K fd ps [])(hlen:∀ds,φ ds ≠ .no->ds.length=ps.length)
 (hbody:∀(cdv:Value) (A:Around) (outer:List Env) (s:Shared) (H:Hp) (E:XK),Room k (z2w P w K mg base N qual st f cdv A outer s H E).A->∃g,PWe (z2w P w K mg base N qual st f cdv A outer s H E) i (z3i st) g/\∀as ws bs,as.length=i->φ (as ++ .lst ws::bs) ≠ .no->(∀c,φ (as ++ .lst ws::bs) ≠ .er c)->g ((ini N.length (as ++ .lst ws::bs)).set i (.own ws))=φ (as ++ .lst ws::bs)) :
 FnM P w K mg base (k+1) f fd ps i φ:=by
 refine⟨?_,hb,Fu.kp⟩
 obtain⟨oc,od,kV,doc,pm,an,cdv,ct,osl,rfl,lk,hcd⟩:=Fu.ex
 refine y7u lk hcd S (fun vs H Q E h=>?_) fun A outer s H vs Q E hr hsp=>?_
 ·obtain⟨as,bs,xs,ys,ws,l,zs,rfl,_,j1,j2,_,_,hne,_⟩:=h
  have:=hlen _ hne
  simp only[List.length_append,List.length_cons,j1.length,j2.length] at this ⊢
  exact this
 obtain⟨g,hq,hg⟩:=hbody cdv A outer s H E hr
 obtain⟨as,bs,xs,ys,ws,l,zs,rfl,hi,j1,j2,hH,j3,hne,hner,hQ⟩:=hsp
 have e0:=hg as ws bs hi hne hner
 refine⟨fun D' σ' H'=>D'={ nx:=fun _ H'=>Q .non H',rt:=Q }/\σ'=L2.start N (xs ++ .ref l::ys)/\H'=H,?_,rfl,rfl,rfl⟩
 intro pins s1 σ1 H1 D1 I hw
 obtain⟨rfl,rfl,rfl⟩:=hw
 have rl:=y7a (N:=N) j1 j2 hH j3
 rw[hi] at rl
 refine wpAny_mono (hq.run pins s1 _ H1 [l] _ I (fun b hb=>⟨zs,by rw[List.mem_singleton.mp hb];exact hH⟩) rl (by rw[e0];exact hne)) (fun fl s' ⟨u,hu,d,ws',v,σ',H',F',l',zs',e1,I',rv,Ex,hl',hH',hF',jw,jd⟩=>?_) fun _ _ z=>False.elim z
 have l1:=j1.length
 have hil:(L2.start N (xs ++ .ref l::ys))[i]? = some (some (.ref l)):=by
  unfold L2.start
  rw[List.getElem?_append_left (by simp;lia),List.getElem?_map,List.getElem?_append_right (by lia),<-l1,hi,Nat.sub_self];rfl
 rw[hil] at hl'
 cases hl'
 have Sx:Same (hid F' H') (hid [l] H'):=fun b o q=>by
  obtain⟨q1,q2⟩:=z1e q
  rw[z0k (fun z=>q1 (by rw[List.mem_singleton.mp z];exact hF'))];exact q2
 have fin:=hQ d ws' v H' zs' (by rw[<-e0];exact e1) (fun b o hb q=>Ex.keep b o (by simpa using hb) q) hH' (jw.same Sx) (jd.same Sx)
 rcases hu with rfl | ⟨rfl,rfl⟩
 ·exact⟨v,σ',H',I',rv,fin⟩
 ·cases v with
  | non=>exact⟨σ',H',I',fin⟩
  | _=>first | exact nomatch rv | (obtain⟨_,z⟩:=rv;cases z)
theorem x0n{x qual:Str}{st:Stmt}{f:Addr}{fd:FuncData}{N ps:List Str}{k i:Nat}(Fu:Fun K x qual st f fd)(S:FnScope N ps (z0g st))(hb:z6h K fd ps []):FnM P w K mg base (k+1) f fd ps i (fun _=>.no):=by
 refine z9i Fu S hb (fun ds h=>absurd rfl h) fun cdv A outer s H E hr=>⟨x6u,x3v.e,fun as ws bs _ h=>absurd rfl h⟩
end
end L3
namespace HQ
open PySem PySem.W PySem.Calls PyProof.Rows L2
noncomputable def runT(tb:String->Option Builtin)(p:Program)(w:World)(n₀:Nat)(ann:Option Value)(n:Nat):SharedT->Thread->Option SharedT :=
 Nat.rec (fun _ _=>none) (fun _ ih s t=>match through t with
  | true=>some s
  | false=>match stepOk n₀ ann t with
    | false=>none
    | true=>match stepT (denote tb) p w s t with
      | some (s',t')=>ih s' t'
      | none=>none) n
theorem y8n{tb:String->Option Builtin}{p:Program}{w:World}{n₀:Nat}{ann:Option Value}:∀{n:Nat} {s r:SharedT} {t:Thread},runT tb p w n₀ ann n s t=some r->topRun tb p w n₀ ann n s.abs t=some r.abs
 | 0,_,_,_,h=>by cases h
 | n+1,s,r,t,h=>by
   have h':(match through t with
    | true=>some s
    | false=>match stepOk n₀ ann t with
      | false=>none
      | true=>match stepT (denote tb) p w s t with
        | some (s',t')=>runT tb p w n₀ ann n s' t'
        | none=>none)=some r:=h
   unfold topRun
   cases ht:through t with
   | true=>rw[ht] at h';cases h';rfl
   | false =>
     rw[ht] at h'
     cases hk:stepOk n₀ ann t with
     | false=>rw[hk] at h';cases h'
     | true =>
       rw[hk] at h'
       cases hs:stepT (denote tb) p w s t with
       | none=>rw[hs] at h';cases h'
       | some x=>obtain⟨s₂,t₂⟩:=x;rw[hs] at h';rw[stepT_spec hs];exact y8n h'
noncomputable def see(p q:Program)(loose:List Str)(Xt:Shared->Bool){α:Type}(Yf:Shared->α)(w:World)(s:Shared) :=
 (staticsOk (importedModules p.main.body) (boot_heap w.params) s.heap&&namesBound p s.heap&&gensDone s&&laidKept (boot_heap w.params) s.heap,openSeen q loose (importedModules p.main.body) Xt true s,Yf s)
theorem x6g{p q:Program}{loose:List Str}{Xt:Shared->Bool}{α:Type}{Yf:Shared->α}{Ya:World->α}{N n₀:Nat}{B:Params->BT}{life:Life}{ann:Option Value}
 (hB:∀P,absHeap (B P) n₀ life=boot_heap P) (e:opening p=plainProg p.main.scope.names) (hN:Nat.ble 600 N=true) (f:∀s,fenceModules? p s=some s)
 (size:∀P,((boot_heap P).isNs mainGlobals,(boot_heap P).nsMap mainGlobals "__annotations__")=(true,ann))
 (big:∀(w:World) (os:OsState),(runT treeTable p w n₀ ann N ⟨B w.params,n₀,life,#[],boot_drawn,boot_toks,os⟩ (topStub p)).map (fun s=>see p q loose Xt Yf w s.abs)=some (true,openGood q loose,Ya w)):LeftO p q loose Xt Yf Ya N:=fun w=>by
 obtain⟨⟨h,gs,d,k,os⟩,e1,e2⟩:=Option.map_eq_some_iff.mp (boot_open (p:=p) (N:=N) e hN f w)
 obtain⟨rfl,rfl,rfl,rfl⟩:h=boot_heap w.params/\gs=#[]/\d=boot_drawn/\k=boot_toks:=by simpa using e2
 obtain⟨z1,z2⟩:_/\_:=by simpa only[Prod.mk.injEq] using size w.params
 obtain⟨r,hr,hs⟩:=Option.map_eq_some_iff.mp (big w os)
 have t:=y8n hr
 have ab:(SharedT.abs ⟨B w.params,n₀,life,#[],boot_drawn,boot_toks,os⟩)=⟨boot_heap w.params,#[],boot_drawn,boot_toks,os⟩:=by
  unfold SharedT.abs
  rw[hB]
 rw[ab] at t
 have sz:(boot_heap w.params).objs.size=n₀:=by rw[<-hB w.params];exact absHeap_size _ _ _
 unfold see at hs
 obtain⟨l1,l2⟩:_/\_:=by simpa only[Prod.mk.injEq] using hs
 have T:topFrom treeTable p w N ⟨boot_heap w.params,#[],boot_drawn,boot_toks,os⟩=some r.abs:=by
  unfold topFrom
  dsimp only
  rw[z1,z2,sz,t]
  show(match staticsOk (importedModules p.main.body) (boot_heap w.params) r.abs.heap&&namesBound p r.abs.heap&&gensDone r.abs&&laidKept (boot_heap w.params) r.abs.heap with | true=>_ | false=>_)=_
  rw[l1]
 unfold openEnds
 rw[e1]
 show(topFrom treeTable p w N _).map _=_
 rw[T]
 exact congrArg some (Prod.ext l2.1 l2.2)
noncomputable def x9j(l:List Obj):BT:=(l.foldl (fun x o=>(x.1.ins x.2 o,x.2+1)) (BT.nil,0)).1
noncomputable def B(P:Params):BT:=x9j (boot_heap P).objs.toList
theorem hB(P:Params):absHeap (B P) 11 {}=boot_heap P:=by kernel_rfl
theorem hS(P:Params):((boot_heap P).isNs mainGlobals,(boot_heap P).nsMap mainGlobals "__annotations__")=(true,some (.ref 6)):=by kernel_rfl
noncomputable def runQ(p:Program)(w:World)(n₀:Nat)(ann:Option Value)(n:Nat):SharedT->Thread->Option SharedT :=
 Nat.rec (fun _ _=>none) (fun _ ih s t=>match through t with
  | true=>some s
  | false=>match PySem.W.Fast.tw6613529449190102663 n₀ ann t with
    | false=>none
    | true=>match PySem.W.Fast.tw10156331382660048174 (PySem.W.Fast.tw11892475500146522536 treeTable) p w s t with
      | some (s',t')=>ih s' t'
      | none=>none) n
theorem x5e:runT treeTable=runQ:=by
 unfold runT runQ
 simp only[<-PySem.W.Fast.te6613529449190102663,<-PySem.W.Fast.te10156331382660048174,<-PySem.W.Fast.te11892475500146522536]
 try rfl
noncomputable def looseOf(p:Program):List Str:=(p.main.scope.names.map (·.1)).filter fun x=>!(startupNames.contains x||x=="law")
noncomputable def seeQ(p q:Program)(loose:List Str)(Xt:Shared->Bool){α:Type}(Yf:Shared->α)(w:World)(s:Shared) :=
 (staticsOk (importedModules p.main.body) (boot_heap w.params) s.heap&&namesBound p s.heap&&gensDone s&&laidKept (boot_heap w.params) s.heap,PySem.W.Fast.tw4187177175401517315 q loose (importedModules p.main.body) Xt true s,Yf s)
theorem x4w:@see=@seeQ:=by
 unfold see seeQ
 rw[PySem.W.Fast.te4187177175401517315]
noncomputable def s0(w:World)(os:OsState):SharedT:=⟨B w.params,11,{},#[],boot_drawn,boot_toks,os⟩
theorem left_q{p q:Program}{loose:List Str}{Xt:Shared->Bool}{α:Type}{Yf:Shared->α}{Ya:World->α}{N:Nat}(e:opening p=plainProg p.main.scope.names)(hN:Nat.ble 600 N=true)(f:∀s,fenceModules? p s=some s)
 (big:∀(w:World) (os:OsState),(runQ p w 11 (some (.ref 6)) N (s0 w os) (topStub p)).map (fun s=>seeQ p q loose Xt Yf w s.abs)=some (true,openGood q loose,Ya w)):LeftO p q loose Xt Yf Ya N :=
 x6g hB e hN f hS (by rw[x5e,x4w];exact big)
noncomputable def fO(x:Str)(st:Stmt)(pm cd:Value):Obj:=⟨.type "function",none,.func (fnOf x x (z9m st) (z3i st) (z0g st) .none .none .none pm none cd .none),#[]⟩
theorem fun_at{K:Frag}{x:Str}{st:Stmt}{a c:Addr}{pm:Value}(l:K.lookup a=some (fO x st pm (.ref c)))(e:codeIn K (.ref c) x=true):Fun K x x st a (fnOf x x (z9m st) (z3i st) (z0g st) .none .none .none pm none (.ref c) .none) :=
 ⟨⟨_,_,_,_,_,_,_,_,_,rfl,l,e⟩,by unfold keepIn;dsimp only;rw[l];rfl⟩
noncomputable def en(P:Params)(x:Str)(t:Tok)(v:Value):DictEntry:=⟨PyData.keyHash P x,.str x t,v⟩
noncomputable def cO(x:Str)(t:Nat)(line argc:Int)(a b c d e:Value)(u:Nat):Obj:=⟨.type "code",none,.fields [.str x t,.str x (t+1),.str "/claim/cut.py" (t+2),.int line 0,.int argc 0,.int 0 0,.int 0 0,.int 3 0,a,.bool true,.int 181 0,b,.none,c,d,e,.int u 0,.int line 0,.str "/claim/cut.py" (u+1)].toArray,#[]⟩
end HQ
namespace L3
open PySem PySem.Spec PyProof.Rows L2
structure Ev where
 P:Program
 w:World
 K:PySem.W.Frag
 mg:Str->Option Value
 base:Heap
noncomputable def Own(E:Ev)(x:Str)(st:Stmt)(ps:List Str):Prop:=∃(a:Addr) (d:FuncData),Fun E.K x x st a d/\z6h E.K d ps []/\E.mg x=some (.ref a)
noncomputable def HasD(E:Ev)(k:Nat)(x:Str)(ps:List Str)(φ:List D->R D):Prop:=∃(a:Addr) (d:FuncData),FnD E.P E.w E.K E.mg E.base k a d ps φ/\E.mg x=some (.ref a)
noncomputable def HasF(E:Ev)(k:Nat)(x:Str)(ps:List Str)(φ:List D->R (List D)):Prop:=∃(a:Addr) (d:FuncData),FnF E.P E.w E.K E.mg E.base k a d ps φ/\E.mg x=some (.ref a)
section
variable {E:Ev}{k k':Nat}{x:Str}{st:Stmt}{N ps:List Str}
theorem HasD.up{φ:List D->R D}(h:HasD E k x ps φ)(hk:k<=k'):∃(a:Addr) (d:FuncData),FnD E.P E.w E.K E.mg E.base k' a d ps φ/\E.mg x=some (.ref a):=let ⟨a,d,f,m⟩:=h;⟨a,d,f.mono hk,m⟩
theorem HasF.up{φ:List D->R (List D)}(h:HasF E k x ps φ)(hk:k<=k'):∃(a:Addr) (d:FuncData),FnF E.P E.w E.K E.mg E.base k' a d ps φ/\E.mg x=some (.ref a):=let ⟨a,d,f,m⟩:=h;⟨a,d,f.mono hk,m⟩
theorem mkD{n m:Nat}{g:G->R Fl}(u:Own E x st ps)(S:FnScope N ps (z0g st))(hn:ps.length=n)(hm:N.length=m)
 (hbody:∀(f:Addr) (cdv:Value) (A:Around) (outer:List Env) (s:Shared) (H:Hp) (Ex:XK),Room k (z2w E.P E.w E.K E.mg E.base N x st f cdv A outer s H Ex).A->(z2w E.P E.w E.K E.mg E.base N x st f cdv A outer s H Ex).A.units+64<cLine->N.Nodup->PQs (z2w E.P E.w E.K E.mg E.base N x st f cdv A outer s H Ex) (z3i st) g):HasD E (k+1) x ps (fnC n m g):=by
 subst hn hm
 obtain⟨a,d,Fu,hb,mm⟩:=u
 exact⟨a,d,z9j Fu S hb (fun ds h=>z2u h) fun cdv A outer s H Ex hr=>⟨g,hbody a cdv A outer s H Ex hr hr.units S.nd,fun ds hne=>(z7v (z2u hne)).symm⟩,mm⟩
theorem mkF{n m:Nat}{g:G->R Fl}(u:Own E x st ps)(S:FnScope N ps (z0g st))(hn:ps.length=n)(hm:N.length=m)
 (hbody:∀(f:Addr) (cdv:Value) (A:Around) (outer:List Env) (s:Shared) (H:Hp) (Ex:XK),Room k (z2w E.P E.w E.K E.mg E.base N x st f cdv A outer s H Ex).A->(z2w E.P E.w E.K E.mg E.base N x st f cdv A outer s H Ex).A.units+64<cLine->N.Nodup->PQs (z2w E.P E.w E.K E.mg E.base N x st f cdv A outer s H Ex) (z3i st) g):HasF E (k+1) x ps (fnF n m g):=by
 subst hn hm
 obtain⟨a,d,Fu,hb,mm⟩:=u
 exact⟨a,d,y6g Fu S hb (fun ds h=>z5g h) fun cdv A outer s H Ex hr=>⟨g,hbody a cdv A outer s H Ex hr hr.units S.nd,fun ds hne=>(y2y (z5g hne)).symm⟩,mm⟩
end
theorem scm{N P:List Str}{sc:Scope}(h:sc.kind = .function/\sc.isCoroutine=false/\sc.isGenerator=false/\N.Nodup/\N.take P.length=P/\(∀x∈P,sc.names.lookup x=some .local∨sc.names.lookup x=some .cell)/\∀y∈sc.names,y.2 ≠ .free):FnScope N P sc:=⟨h.1,h.2.1,h.2.2.1,h.2.2.2.1,h.2.2.2.2.1,h.2.2.2.2.2.1,h.2.2.2.2.2.2⟩
theorem iss{α:Type}{o:Option α}{c:α}(h:o=some c):o.isSome=true:=by rw[h];rfl
theorem lawD{P:Program}{w:World}{K:PySem.W.Frag}{mg:Str->Option Value}{k:Nat}{a:Addr}{d:FuncData}{φ:List D->R D}{st:Stmt}(_U:Fun K "law" "law" st a d)(hB:∀(s:Shared) (v:Value),BindsTo s d ⟨[v],[]⟩ [("script",v)])(F:∀base:Heap,K.In base->base.Ns mainGlobals mg->FnD P w K mg base k a d ["script"] φ) :
 ∃fd:FuncData,(∀(s:Shared) (v:Value),BindsTo s fd ⟨[v],[]⟩ [("script",v)])/\∀base:Heap,K.In base->base.Ns mainGlobals mg->FnOk P w K mg base (CXE P w) k a fd ["script"] (spN φ K):=⟨d,hB,fun base h1 h2=>(F base h1 h2).okN⟩
noncomputable def HasM(E:Ev)(k:Nat)(x:Str)(ps:List Str)(i:Nat)(φ:List D->R (D×List D)):Prop:=∃(a:Addr) (d:FuncData),FnM E.P E.w E.K E.mg E.base k a d ps i φ/\E.mg x=some (.ref a)
section
variable {E:Ev}{k k':Nat}{x:Str}{st:Stmt}{N ps:List Str}
theorem HasM.up{i:Nat}{φ:List D->R (D×List D)}(h:HasM E k x ps i φ)(hk:k<=k'):∃(a:Addr) (d:FuncData),FnM E.P E.w E.K E.mg E.base k' a d ps i φ/\E.mg x=some (.ref a):=let ⟨a,d,f,m⟩:=h;⟨a,d,f.mono hk,m⟩
theorem mkM{n m i:Nat}{g:G->R (D×List D)}(u:Own E x st ps)(S:FnScope N ps (z0g st))(hn:ps.length=n)(hm:N.length=m)
 (hbody:∀(f:Addr) (cdv:Value) (A:Around) (outer:List Env) (s:Shared) (H:Hp) (Ex:XK),Room k (z2w E.P E.w E.K E.mg E.base N x st f cdv A outer s H Ex).A->(z2w E.P E.w E.K E.mg E.base N x st f cdv A outer s H Ex).A.units+64<cLine->N.Nodup->PWe (z2w E.P E.w E.K E.mg E.base N x st f cdv A outer s H Ex) i (z3i st) g):HasM E (k+1) x ps i (fnM n m i g):=by
 subst hn hm
 obtain⟨a,d,Fu,hb,mm⟩:=u
 exact⟨a,d,z9i Fu S hb (fun ds h=>z5f h) fun cdv A outer s H Ex hr=>⟨g,hbody a cdv A outer s H Ex hr hr.units S.nd,fun as ws bs hi hne _=>(z5w hi (z5f hne)).symm⟩,mm⟩
end
end L3
namespace Row
open PySem PySem.Spec PyProof.Rows L2 L3
noncomputable def top(i:Nat):Stmt:=PySem.Challenge.pw_longrounds_k81_texts_there_and_back.main.body.getD i (.Pass ⟨0,0,0,0⟩)
noncomputable abbrev s_z:Stmt:=top 49
theorem sc_z:FnScope ["script","k"] ["script","k"] (z0g s_z):=scm (by decide +kernel)
noncomputable abbrev s_k:Stmt:=top 53
theorem sc_k:FnScope ["cell"] ["cell"] (z0g s_k):=scm (by decide +kernel)
noncomputable abbrev s_g:Stmt:=top 51
theorem sc_g:FnScope ["cell","P","size","out","k"] ["cell","P","size"] (z0g s_g):=scm (by decide +kernel)
noncomputable abbrev s_F:Stmt:=top 54
theorem sc_F:FnScope ["cell","more","P","many","x","form"] ["cell","more","P","many"] (z0g s_F):=scm (by decide +kernel)
noncomputable abbrev s_m:Stmt:=top 55
theorem sc_m:FnScope ["cells","P","many","agains","items","deep","k","few","level"] ["cells","P","many","agains"] (z0g s_m):=scm (by decide +kernel)
noncomputable abbrev s_i:Stmt:=top 56
theorem sc_i:FnScope ["cell","more","many","letters","size","out","k","word","p","n"] ["cell","more","many"] (z0g s_i):=scm (by decide +kernel)
noncomputable abbrev s_n:Stmt:=top 52
theorem sc_n:FnScope ["found"] ["found"] (z0g s_n):=scm (by decide +kernel)
noncomputable abbrev s_p:Stmt:=top 59
theorem sc_p:FnScope ["thing"] ["thing"] (z0g s_p):=scm (by decide +kernel)
noncomputable abbrev s_t:Stmt:=top 50
theorem sc_t:FnScope ["cell","n"] ["cell"] (z0g s_t):=scm (by decide +kernel)
noncomputable abbrev s_o:Stmt:=top 57
theorem sc_o:FnScope ["names","items","words","item"] ["names","items"] (z0g s_o):=scm (by decide +kernel)
noncomputable abbrev s_A:Stmt:=top 58
theorem sc_A:FnScope ["P","names","items","rows"] ["P","names","items"] (z0g s_A):=scm (by decide +kernel)
noncomputable abbrev s_u:Stmt:=top 33
theorem sc_u:FnScope ["word","signs","most"] ["word","signs","most"] (z0g s_u):=scm (by decide +kernel)
noncomputable abbrev s_f:Stmt:=top 34
theorem sc_f:FnScope ["word"] ["word"] (z0g s_f):=scm (by decide +kernel)
noncomputable abbrev s_L:Stmt:=top 36
theorem sc_L:FnScope ["words","count"] ["words","count"] (z0g s_L):=scm (by decide +kernel)
noncomputable abbrev s_x:Stmt:=top 37
theorem sc_x:FnScope ["words","sign"] ["words","sign"] (z0g s_x):=scm (by decide +kernel)
noncomputable abbrev s_a:Stmt:=top 35
theorem sc_a:FnScope ["P","word","n"] ["P","word"] (z0g s_a):=scm (by decide +kernel)
noncomputable abbrev s_D:Stmt:=top 38
theorem sc_D:FnScope ["P","names","words","name","form"] ["P","names","words"] (z0g s_D):=scm (by decide +kernel)
noncomputable abbrev s_v:Stmt:=top 39
theorem sc_v:FnScope ["P","names","words","around","n","items"] ["P","names","words","around"] (z0g s_v):=scm (by decide +kernel)
noncomputable abbrev s_y:Stmt:=top 40
theorem sc_y:FnScope ["P","names","words","around","word"] ["P","names","words","around"] (z0g s_y):=scm (by decide +kernel)
noncomputable abbrev s_h:Stmt:=top 41
theorem sc_h:FnScope ["P","names","words","around","items"] ["P","names","words","around"] (z0g s_h):=scm (by decide +kernel)
noncomputable abbrev s_B:Stmt:=top 8
theorem sc_B:FnScope ["thing"] ["thing"] (z0g s_B):=scm (by decide +kernel)
noncomputable abbrev s_J:Stmt:=top 10
theorem sc_J:FnScope ["thing","least","most"] ["thing","least","most"] (z0g s_J):=scm (by decide +kernel)
noncomputable abbrev s_b:Stmt:=top 18
theorem sc_b:FnScope ["items","ahead","count","item"] ["items","ahead"] (z0g s_b):=scm (by decide +kernel)
noncomputable abbrev s_on:Stmt:=top 13
theorem x9a:FnScope ["P","n"] ["P","n"] (z0g s_on):=scm (by decide +kernel)
noncomputable abbrev s_C:Stmt:=top 19
theorem sc_C:FnScope ["P","many","x","form"] ["P","many","x","form"] (z0g s_C):=scm (by decide +kernel)
noncomputable abbrev s_j:Stmt:=top 20
theorem sc_j:FnScope ["P","many","n","items","around"] ["P","many","n","items","around"] (z0g s_j):=scm (by decide +kernel)
noncomputable abbrev s_w:Stmt:=top 21
theorem sc_w:FnScope ["P","many","item","around"] ["P","many","item","around"] (z0g s_w):=scm (by decide +kernel)
noncomputable abbrev s_q:Stmt:=top 22
theorem sc_q:FnScope ["P","many","items","around"] ["P","many","items","around"] (z0g s_q):=scm (by decide +kernel)
noncomputable abbrev s_d:Stmt:=top 9
theorem sc_d:FnScope ["n","divisor"] ["n"] (z0g s_d):=scm (by decide +kernel)
noncomputable abbrev s_G:Stmt:=top 11
theorem sc_G:FnScope ["thing"] ["thing"] (z0g s_G):=scm (by decide +kernel)
noncomputable abbrev s_M:Stmt:=top 12
theorem sc_M:FnScope ["thing"] ["thing"] (z0g s_M):=scm (by decide +kernel)
noncomputable abbrev s_H:Stmt:=top 23
theorem sc_H:FnScope ["P","many","items"] ["P","many","items"] (z0g s_H):=scm (by decide +kernel)
noncomputable abbrev s_s:Stmt:=top 46
theorem sc_s:FnScope ["P","names","words","left","items"] ["P","names","words"] (z0g s_s):=scm (by decide +kernel)
noncomputable abbrev s_K:Stmt:=top 44
theorem sc_K:FnScope ["word"] ["word"] (z0g s_K):=scm (by decide +kernel)
noncomputable abbrev s_r:Stmt:=top 45
theorem sc_r:FnScope ["words"] ["words"] (z0g s_r):=scm (by decide +kernel)
noncomputable abbrev s_l:Stmt:=top 43
theorem sc_l:FnScope ["words","P"] ["words"] (z0g s_l):=scm (by decide +kernel)
noncomputable abbrev s_e:Stmt:=top 42
theorem sc_e:FnScope ["row","first","words"] ["row","first"] (z0g s_e):=scm (by decide +kernel)
noncomputable abbrev s_O:Stmt:=top 47
theorem sc_O:FnScope ["text","rows","P","names"] ["text"] (z0g s_O):=scm (by decide +kernel)
noncomputable abbrev s_I:Stmt:=top 29
theorem sc_I:FnScope ["numbers"] ["numbers"] (z0g s_I):=scm (by decide +kernel)
noncomputable abbrev s_E:Stmt:=top 31
theorem sc_E:FnScope ["names","items","words","item"] ["names","items"] (z0g s_E):=scm (by decide +kernel)
noncomputable abbrev s_c:Stmt:=top 30
theorem sc_c:FnScope ["names","item"] ["names","item"] (z0g s_c):=scm (by decide +kernel)
noncomputable abbrev s_N:Stmt:=top 32
theorem sc_N:FnScope ["P","names","items","rows"] ["P","names","items"] (z0g s_N):=scm (by decide +kernel)
noncomputable abbrev x5b:Stmt:=top 60
theorem x3q:FnScope ["script","P","many","names","items","text","some","found"] ["script"] (z0g x5b):=scm (by decide +kernel)
noncomputable def KK(P:Params):PySem.W.Frag :=
 (nat_lit 3,⟨(.type "dict"),none,.dict (HQ.en P "__name__" 165 (.str "law_longrounds_k81_texts_there_and_back" 534)::HQ.en P "__doc__" 166 .none::HQ.en P "__package__" 167 .none::HQ.en P "__loader__" 168 (.builtin "__main__.__loader__#opaque")::HQ.en P "__spec__" 169 .none::HQ.en P "__annotations__" 170 (.ref 6)::HQ.en P "__builtins__" 171 (.ref 4)::HQ.en P "__file__" 173 (.str "/claim/cut.py" 172)::HQ.en P "__cached__" 174 .none::HQ.en P "LongError" 206 (.ref 24)::HQ.en P "NoPrime" 222 (.ref 37)::HQ.en P "NoProgram" 238 (.ref 49)::HQ.en P "NoText" 254 (.ref 61)::HQ.en P "LEAST_PRIME" 258 (.int 3 257)::HQ.en P "GREATEST_PRIME" 260 (.int 9999 259)::HQ.en P "is_whole" 267 (.ref 70)::HQ.en P "least_divisor" 275 (.ref 77)::HQ.en P "is_from" 284 (.ref 84)::HQ.en P "is_prime" 291 (.ref 91)::HQ.en P "prime" 298 (.ref 98)::HQ.en P "on" 306 (.ref 105)::HQ.en P "MOST_BOXES" 310 (.int 3 309)::HQ.en P "MOST_ITEMS" 312 (.int 30 311)::HQ.en P "MOST_DEEP" 314 (.int 3 313)::HQ.en P "items_counted" 324 (.ref 112)::HQ.en P "made_set" 330 (.ref 117)::HQ.en P "made_again" 341 (.ref 124)::HQ.en P "made_item" 351 (.ref 131)::HQ.en P "made_items" 357 (.ref 136)::HQ.en P "program" 366 (.ref 143)::HQ.en P "FIGURES" 370 (.str "0123456789" 369)::HQ.en P "MOST_FIGURES" 372 (.int 31 371)::HQ.en P "LETTERS" 374 (.str "abcdefghijklmnopqrstuvwxyz" 373)::HQ.en P "MOST_LETTERS" 376 (.int 8 375)::HQ.en P "written" 382 (.ref 148)::HQ.en P "words_of_item" 390 (.ref 155)::HQ.en P "words_of" 400 (.ref 162)::HQ.en P "show" 406 (.ref 167)::HQ.en P "is_made_of" 412 (.ref 172)::HQ.en P "number_from" 419 (.ref 179)::HQ.en P "number_on_wheel" 428 (.ref 186)::HQ.en P "taken" 434 (.ref 191)::HQ.en P "take_sign" 442 (.ref 198)::HQ.en P "set_from" 448 (.ref 203)::HQ.en P "again_from" 460 (.ref 210)::HQ.en P "item_from" 471 (.ref 217)::HQ.en P "items_from" 482 (.ref 224)::HQ.en P "words_behind" 491 (.ref 231)::HQ.en P "read_prime" 499 (.ref 238)::HQ.en P "is_name" 506 (.ref 245)::HQ.en P "read_names" 512 (.ref 250)::HQ.en P "read_items" 523 (.ref 257)::HQ.en P "read" 533 (.ref 264)::HQ.en P "_law_cell" 543 (.ref 271)::HQ.en P "_law_prime" 549 (.ref 276)::HQ.en P "_law_digits" 560 (.ref 283)::HQ.en P "_law_whole" 567 (.ref 290)::HQ.en P "_law_count" 574 (.ref 297)::HQ.en P "_law_set" 586 (.ref 304)::HQ.en P "_law_items" 601 (.ref 311)::HQ.en P "_law_names" 617 (.ref 318)::HQ.en P "_law_words" 623 (.ref 323)::HQ.en P "_law_text" 633 (.ref 330)::HQ.en P "_law_plain" 639 (.ref 335)::HQ.en P "law" 653 (.ref 342)::[]).toArray 65,#[]⟩) ::
 (nat_lit 23,⟨(.type "dict"),none,.dict (HQ.en P "__module__" 196 (.str "longrounds.errors" 187)::HQ.en P "__firstlineno__" 200 (.int 2 199)::HQ.en P "__static_attributes__" 201 (.ref 22)::HQ.en P "__weakref__" 203 (.ref 25)::HQ.en P "__doc__" 204 .none::[]).toArray 3,#[]⟩) ::
 (nat_lit 24,⟨(.type "type"),none,.cls { name:="LongError",bases:=[(.type "ValueError")],mro:=[(.ref 24),(.type "ValueError"),(.type "Exception"),(.type "BaseException"),(.type "object")],ns:=23,qualname:="LongError",hasDict:=true,slotNames:=[],subclasses:=[(.ref 37),(.ref 49),(.ref 61)],abstract:=false,collection:=none,hasDel:=false },([some (.ref 15),none,some (.str "LongError" 189),some (.str "LongError" 197),some (.builtin "ValueError.__new__"),some (.bool true)]).toArray⟩) ::
 (nat_lit 36,⟨(.type "dict"),none,.dict (HQ.en P "__module__" 214 (.str "longrounds.errors" 187)::HQ.en P "__firstlineno__" 218 (.int 4 217)::HQ.en P "__static_attributes__" 219 (.ref 35)::HQ.en P "__doc__" 220 .none::[]).toArray 2,#[]⟩) ::
 (nat_lit 37,⟨(.type "type"),none,.cls { name:="NoPrime",bases:=[(.ref 24)],mro:=[(.ref 37),(.ref 24),(.type "ValueError"),(.type "Exception"),(.type "BaseException"),(.type "object")],ns:=36,qualname:="NoPrime",hasDict:=true,slotNames:=[],subclasses:=[],abstract:=false,collection:=none,hasDel:=false },([some (.ref 28),none,some (.str "NoPrime" 207),some (.str "NoPrime" 215),some (.builtin "ValueError.__new__"),some (.bool true)]).toArray⟩) ::
 (nat_lit 48,⟨(.type "dict"),none,.dict (HQ.en P "__module__" 230 (.str "longrounds.errors" 187)::HQ.en P "__firstlineno__" 234 (.int 6 233)::HQ.en P "__static_attributes__" 235 (.ref 47)::HQ.en P "__doc__" 236 .none::[]).toArray 2,#[]⟩) ::
 (nat_lit 49,⟨(.type "type"),none,.cls { name:="NoProgram",bases:=[(.ref 24)],mro:=[(.ref 49),(.ref 24),(.type "ValueError"),(.type "Exception"),(.type "BaseException"),(.type "object")],ns:=48,qualname:="NoProgram",hasDict:=true,slotNames:=[],subclasses:=[],abstract:=false,collection:=none,hasDel:=false },([some (.ref 40),none,some (.str "NoProgram" 223),some (.str "NoProgram" 231),some (.builtin "ValueError.__new__"),some (.bool true)]).toArray⟩) ::
 (nat_lit 60,⟨(.type "dict"),none,.dict (HQ.en P "__module__" 246 (.str "longrounds.errors" 187)::HQ.en P "__firstlineno__" 250 (.int 8 249)::HQ.en P "__static_attributes__" 251 (.ref 59)::HQ.en P "__doc__" 252 .none::[]).toArray 2,#[]⟩) ::
 (nat_lit 61,⟨(.type "type"),none,.cls { name:="NoText",bases:=[(.ref 24)],mro:=[(.ref 61),(.ref 24),(.type "ValueError"),(.type "Exception"),(.type "BaseException"),(.type "object")],ns:=60,qualname:="NoText",hasDict:=true,slotNames:=[],subclasses:=[],abstract:=false,collection:=none,hasDel:=false },([some (.ref 52),none,some (.str "NoText" 239),some (.str "NoText" 247),some (.builtin "ValueError.__new__"),some (.bool true)]).toArray⟩) ::
 (nat_lit 69,HQ.cO "is_whole" 261 13 1 (.ref 64) (.ref 65) (.ref 66) (.ref 67) (.ref 68) 265) ::
 (nat_lit 70,HQ.fO "is_whole" (top 8) (.str "longrounds.numbers" 255) (.ref 69)) ::
 (nat_lit 76,HQ.cO "least_divisor" 268 15 1 (.ref 71) (.ref 72) (.ref 73) (.ref 74) (.ref 75) 273) ::
 (nat_lit 77,HQ.fO "least_divisor" (top 9) (.str "longrounds.numbers" 255) (.ref 76)) ::
 (nat_lit 83,HQ.cO "is_from" 276 22 3 (.ref 78) (.ref 79) (.ref 80) (.ref 81) (.ref 82) 282) ::
 (nat_lit 84,HQ.fO "is_from" (top 10) (.str "longrounds.numbers" 255) (.ref 83)) ::
 (nat_lit 90,HQ.cO "is_prime" 285 24 1 (.ref 85) (.ref 86) (.ref 87) (.ref 88) (.ref 89) 289) ::
 (nat_lit 91,HQ.fO "is_prime" (top 11) (.str "longrounds.numbers" 255) (.ref 90)) ::
 (nat_lit 97,HQ.cO "prime" 292 26 1 (.ref 92) (.ref 93) (.ref 94) (.ref 95) (.ref 96) 296) ::
 (nat_lit 98,HQ.fO "prime" (top 12) (.str "longrounds.numbers" 255) (.ref 97)) ::
 (nat_lit 104,HQ.cO "on" 299 30 2 (.ref 99) (.ref 100) (.ref 101) (.ref 102) (.ref 103) 304) ::
 (nat_lit 105,HQ.fO "on" (top 13) (.str "longrounds.numbers" 255) (.ref 104)) ::
 (nat_lit 111,HQ.cO "items_counted" 315 36 2 (.ref 106) (.ref 107) (.ref 108) (.ref 109) (.ref 110) 322) ::
 (nat_lit 112,HQ.fO "items_counted" (top 18) (.str "longrounds.programs" 307) (.ref 111)) ::
 (nat_lit 116,HQ.cO "made_set" 325 45 4 (.ref 113) (.ref 114) .none .none (.ref 115) 328) ::
 (nat_lit 117,HQ.fO "made_set" (top 19) (.str "longrounds.programs" 307) (.ref 116)) ::
 (nat_lit 123,HQ.cO "made_again" 331 51 5 (.ref 118) (.ref 119) (.ref 120) (.ref 121) (.ref 122) 339) ::
 (nat_lit 124,HQ.fO "made_again" (top 20) (.str "longrounds.programs" 307) (.ref 123)) ::
 (nat_lit 130,HQ.cO "made_item" 342 57 4 (.ref 125) (.ref 126) (.ref 127) (.ref 128) (.ref 129) 349) ::
 (nat_lit 131,HQ.fO "made_item" (top 21) (.str "longrounds.programs" 307) (.ref 130)) ::
 (nat_lit 135,HQ.cO "made_items" 352 61 4 (.ref 132) (.ref 133) .none .none (.ref 134) 355) ::
 (nat_lit 136,HQ.fO "made_items" (top 22) (.str "longrounds.programs" 307) (.ref 135)) ::
 (nat_lit 142,HQ.cO "program" 358 63 3 (.ref 137) (.ref 138) (.ref 139) (.ref 140) (.ref 141) 364) ::
 (nat_lit 143,HQ.fO "program" (top 23) (.str "longrounds.programs" 307) (.ref 142)) ::
 (nat_lit 147,HQ.cO "written" 377 74 1 (.ref 144) (.ref 145) .none .none (.ref 146) 380) ::
 (nat_lit 148,HQ.fO "written" (top 29) (.str "longrounds.texts" 367) (.ref 147)) ::
 (nat_lit 154,HQ.cO "words_of_item" 383 76 2 (.ref 149) (.ref 150) (.ref 151) (.ref 152) (.ref 153) 388) ::
 (nat_lit 155,HQ.fO "words_of_item" (top 30) (.str "longrounds.texts" 367) (.ref 154)) ::
 (nat_lit 161,HQ.cO "words_of" 391 80 2 (.ref 156) (.ref 157) (.ref 158) (.ref 159) (.ref 160) 398) ::
 (nat_lit 162,HQ.fO "words_of" (top 31) (.str "longrounds.texts" 367) (.ref 161)) ::
 (nat_lit 166,HQ.cO "show" 401 85 3 (.ref 163) (.ref 164) .none .none (.ref 165) 404) ::
 (nat_lit 167,HQ.fO "show" (top 32) (.str "longrounds.texts" 367) (.ref 166)) ::
 (nat_lit 171,HQ.cO "is_made_of" 407 88 3 (.ref 168) (.ref 169) .none .none (.ref 170) 410) ::
 (nat_lit 172,HQ.fO "is_made_of" (top 33) (.str "longrounds.texts" 367) (.ref 171)) ::
 (nat_lit 178,HQ.cO "number_from" 413 90 1 (.ref 173) (.ref 174) (.ref 175) (.ref 176) (.ref 177) 417) ::
 (nat_lit 179,HQ.fO "number_from" (top 34) (.str "longrounds.texts" 367) (.ref 178)) ::
 (nat_lit 185,HQ.cO "number_on_wheel" 420 94 2 (.ref 180) (.ref 181) (.ref 182) (.ref 183) (.ref 184) 426) ::
 (nat_lit 186,HQ.fO "number_on_wheel" (top 35) (.str "longrounds.texts" 367) (.ref 185)) ::
 (nat_lit 190,HQ.cO "taken" 429 99 2 (.ref 187) (.ref 188) .none .none (.ref 189) 432) ::
 (nat_lit 191,HQ.fO "taken" (top 36) (.str "longrounds.texts" 367) (.ref 190)) ::
 (nat_lit 197,HQ.cO "take_sign" 435 103 2 (.ref 192) (.ref 193) (.ref 194) (.ref 195) (.ref 196) 440) ::
 (nat_lit 198,HQ.fO "take_sign" (top 37) (.str "longrounds.texts" 367) (.ref 197)) ::
 (nat_lit 202,HQ.cO "set_from" 443 106 3 (.ref 199) (.ref 200) .none .none (.ref 201) 446) ::
 (nat_lit 203,HQ.fO "set_from" (top 38) (.str "longrounds.texts" 367) (.ref 202)) ::
 (nat_lit 209,HQ.cO "again_from" 449 112 4 (.ref 204) (.ref 205) (.ref 206) (.ref 207) (.ref 208) 458) ::
 (nat_lit 210,HQ.fO "again_from" (top 39) (.str "longrounds.texts" 367) (.ref 209)) ::
 (nat_lit 216,HQ.cO "item_from" 461 120 4 (.ref 211) (.ref 212) (.ref 213) (.ref 214) (.ref 215) 469) ::
 (nat_lit 217,HQ.fO "item_from" (top 40) (.str "longrounds.texts" 367) (.ref 216)) ::
 (nat_lit 223,HQ.cO "items_from" 472 127 4 (.ref 218) (.ref 219) (.ref 220) (.ref 221) (.ref 222) 480) ::
 (nat_lit 224,HQ.fO "items_from" (top 41) (.str "longrounds.texts" 367) (.ref 223)) ::
 (nat_lit 230,HQ.cO "words_behind" 483 132 2 (.ref 225) (.ref 226) (.ref 227) (.ref 228) (.ref 229) 489) ::
 (nat_lit 231,HQ.fO "words_behind" (top 42) (.str "longrounds.texts" 367) (.ref 230)) ::
 (nat_lit 237,HQ.cO "read_prime" 492 137 1 (.ref 232) (.ref 233) (.ref 234) (.ref 235) (.ref 236) 497) ::
 (nat_lit 238,HQ.fO "read_prime" (top 43) (.str "longrounds.texts" 367) (.ref 237)) ::
 (nat_lit 244,HQ.cO "is_name" 500 144 1 (.ref 239) (.ref 240) (.ref 241) (.ref 242) (.ref 243) 504) ::
 (nat_lit 245,HQ.fO "is_name" (top 44) (.str "longrounds.texts" 367) (.ref 244)) ::
 (nat_lit 249,HQ.cO "read_names" 507 146 1 (.ref 246) (.ref 247) .none .none (.ref 248) 510) ::
 (nat_lit 250,HQ.fO "read_names" (top 45) (.str "longrounds.texts" 367) (.ref 249)) ::
 (nat_lit 256,HQ.cO "read_items" 513 152 3 (.ref 251) (.ref 252) (.ref 253) (.ref 254) (.ref 255) 521) ::
 (nat_lit 257,HQ.fO "read_items" (top 46) (.str "longrounds.texts" 367) (.ref 256)) ::
 (nat_lit 263,HQ.cO "read" 524 161 1 (.ref 258) (.ref 259) (.ref 260) (.ref 261) (.ref 262) 531) ::
 (nat_lit 264,HQ.fO "read" (top 47) (.str "longrounds.texts" 367) (.ref 263)) ::
 (nat_lit 270,HQ.cO "_law_cell" 536 169 2 (.ref 265) (.ref 266) (.ref 267) (.ref 268) (.ref 269) 541) ::
 (nat_lit 271,HQ.fO "_law_cell" (top 49) (.str "law_longrounds_k81_texts_there_and_back" 534) (.ref 270)) ::
 (nat_lit 275,HQ.cO "_law_prime" 544 173 1 (.ref 272) (.ref 273) .none .none (.ref 274) 547) ::
 (nat_lit 276,HQ.fO "_law_prime" (top 50) (.str "law_longrounds_k81_texts_there_and_back" 534) (.ref 275)) ::
 (nat_lit 282,HQ.cO "_law_digits" 550 180 3 (.ref 277) (.ref 278) (.ref 279) (.ref 280) (.ref 281) 558) ::
 (nat_lit 283,HQ.fO "_law_digits" (top 51) (.str "law_longrounds_k81_texts_there_and_back" 534) (.ref 282)) ::
 (nat_lit 289,HQ.cO "_law_whole" 561 186 1 (.ref 284) (.ref 285) (.ref 286) (.ref 287) (.ref 288) 565) ::
 (nat_lit 290,HQ.fO "_law_whole" (top 52) (.str "law_longrounds_k81_texts_there_and_back" 534) (.ref 289)) ::
 (nat_lit 296,HQ.cO "_law_count" 568 188 1 (.ref 291) (.ref 292) (.ref 293) (.ref 294) (.ref 295) 572) ::
 (nat_lit 297,HQ.fO "_law_count" (top 53) (.str "law_longrounds_k81_texts_there_and_back" 534) (.ref 296)) ::
 (nat_lit 303,HQ.cO "_law_set" 575 190 4 (.ref 298) (.ref 299) (.ref 300) (.ref 301) (.ref 302) 584) ::
 (nat_lit 304,HQ.fO "_law_set" (top 54) (.str "law_longrounds_k81_texts_there_and_back" 534) (.ref 303)) ::
 (nat_lit 310,HQ.cO "_law_items" 587 196 4 (.ref 305) (.ref 306) (.ref 307) (.ref 308) (.ref 309) 599) ::
 (nat_lit 311,HQ.fO "_law_items" (top 55) (.str "law_longrounds_k81_texts_there_and_back" 534) (.ref 310)) ::
 (nat_lit 317,HQ.cO "_law_names" 602 210 3 (.ref 312) (.ref 313) (.ref 314) (.ref 315) (.ref 316) 615) ::
 (nat_lit 318,HQ.fO "_law_names" (top 56) (.str "law_longrounds_k81_texts_there_and_back" 534) (.ref 317)) ::
 (nat_lit 322,HQ.cO "_law_words" 618 225 2 (.ref 319) (.ref 320) .none .none (.ref 321) 621) ::
 (nat_lit 323,HQ.fO "_law_words" (top 57) (.str "law_longrounds_k81_texts_there_and_back" 534) (.ref 322)) ::
 (nat_lit 329,HQ.cO "_law_text" 624 233 3 (.ref 324) (.ref 325) (.ref 326) (.ref 327) (.ref 328) 631) ::
 (nat_lit 330,HQ.fO "_law_text" (top 58) (.str "law_longrounds_k81_texts_there_and_back" 534) (.ref 329)) ::
 (nat_lit 334,HQ.cO "_law_plain" 634 236 1 (.ref 331) (.ref 332) .none .none (.ref 333) 637) ::
 (nat_lit 335,HQ.fO "_law_plain" (top 59) (.str "law_longrounds_k81_texts_there_and_back" 534) (.ref 334)) ::
 (nat_lit 341,HQ.cO "law" 640 240 1 (.ref 336) (.ref 337) (.ref 338) (.ref 339) (.ref 340) 651) ::
 (nat_lit 342,HQ.fO "law" (top 60) (.str "law_longrounds_k81_texts_there_and_back" 534) (.ref 341))::[]
noncomputable def ks:List Addr:=[3,23,24,36,37,48,49,60,61,69,70,76,77,83,84,90,91,97,98,104,105,111,112,116,117,123,124,130,131,135,136,142,143,147,148,154,155,161,162,166,167,171,172,178,179,185,186,190,191,197,198,202,203,209,210,216,217,223,224,230,231,237,238,244,245,249,250,256,257,263,264,270,271,275,276,282,283,289,290,296,297,303,304,310,311,317,318,322,323,329,330,334,335,341,342]
structure Bi (E:Ev):Prop where
 ba:E.mg "all"=none
 bb:E.mg "any"=none
 bc:E.mg "bool"=none
 bd:E.mg "int"=none
 be:E.mg "isinstance"=none
 bf:E.mg "len"=none
 bg:E.mg "list"=none
 bh:E.mg "max"=none
 bi:E.mg "min"=none
 bj:E.mg "range"=none
 bk:E.mg "reversed"=none
 bl:E.mg "set"=none
 bm:E.mg "str"=none
 bn:E.mg "tuple"=none
 bo:E.mg "FIGURES"=some (.str "0123456789" 369)
 bp:E.mg "GREATEST_PRIME"=some (.int 9999 259)
 bq:E.mg "LEAST_PRIME"=some (.int 3 257)
 br:E.mg "LETTERS"=some (.str "abcdefghijklmnopqrstuvwxyz" 373)
 bs:E.mg "MOST_BOXES"=some (.int 3 309)
 bt:E.mg "MOST_DEEP"=some (.int 3 313)
 bu:E.mg "MOST_FIGURES"=some (.int 31 371)
 bv:E.mg "MOST_ITEMS"=some (.int 30 311)
 bw:E.mg "MOST_LETTERS"=some (.int 8 375)
 bx:E.mg "NoPrime"=some (.ref 37)
 bz:E.mg "NoProgram"=some (.ref 49)
 ca:E.mg "NoText"=some (.ref 61)
 cb:E.mg "LongError"=some (.ref 24)
 cc:XOk E.K E.mg .noPrime 37
 cd:XOk E.K E.mg .noProgram 49
 ce:XOk E.K E.mg .noText 61
section
variable {E:Ev}(B:Bi E)
noncomputable abbrev h_z (E:Ev):Prop:=HasD E 1 "_law_cell" ["script","k"] c_z
noncomputable abbrev h_k (E:Ev):Prop:=HasD E 1 "_law_count" ["cell"] c_k
noncomputable abbrev h_g (E:Ev):Prop:=HasD E 1 "_law_digits" ["cell","P","size"] c_g
noncomputable abbrev h_F (E:Ev):Prop:=HasD E 2 "_law_set" ["cell","more","P","many"] c_F
noncomputable abbrev h_m (E:Ev):Prop:=HasD E 3 "_law_items" ["cells","P","many","agains"] c_m
noncomputable abbrev h_i (E:Ev):Prop:=HasD E 1 "_law_names" ["cell","more","many"] c_i
noncomputable abbrev h_n (E:Ev):Prop:=HasD E 1 "_law_whole" ["found"] c_n
noncomputable abbrev h_p (E:Ev):Prop:=HasD E 13 "_law_plain" ["thing"] (c_p 12)
noncomputable abbrev h_t (E:Ev):Prop:=HasD E 1 "_law_prime" ["cell"] c_t
noncomputable abbrev h_o (E:Ev):Prop:=HasF E 13 "_law_words" ["names","items"] (c_o 12)
noncomputable abbrev h_A (E:Ev):Prop:=HasD E 14 "_law_text" ["P","names","items"] c_A
noncomputable abbrev h_u (E:Ev):Prop:=HasD E 1 "is_made_of" ["word","signs","most"] c_u
noncomputable abbrev h_f (E:Ev):Prop:=HasD E 2 "number_from" ["word"] c_f
noncomputable abbrev h_L (E:Ev):Prop:=HasM E 1 "taken" ["words","count"] 0 c_L
noncomputable abbrev h_x (E:Ev):Prop:=HasM E 2 "take_sign" ["words","sign"] 0 c_x
noncomputable abbrev h_a (E:Ev):Prop:=HasD E 3 "number_on_wheel" ["P","word"] c_a
noncomputable abbrev h_D (E:Ev):Prop:=HasM E 4 "set_from" ["P","names","words"] 2 c_D
noncomputable abbrev h_h (E:Ev):Prop:=HasM E 16 "items_from" ["P","names","words","around"] 2 (c_h 12)
noncomputable abbrev h_B (E:Ev):Prop:=HasD E 1 "is_whole" ["thing"] c_B
noncomputable abbrev h_J (E:Ev):Prop:=HasD E 2 "is_from" ["thing","least","most"] c_J
noncomputable abbrev h_b (E:Ev):Prop:=HasD E 13 "items_counted" ["items","ahead"] (c_b 12)
noncomputable abbrev h_on (E:Ev):Prop:=HasD E 1 "on" ["P","n"] c_on
noncomputable abbrev h_C (E:Ev):Prop:=HasD E 3 "made_set" ["P","many","x","form"] c_C
noncomputable abbrev h_q (E:Ev):Prop:=HasD E 15 "made_items" ["P","many","items","around"] (c_q 12)
noncomputable abbrev h_d (E:Ev):Prop:=HasD E 1 "least_divisor" ["n"] c_d
noncomputable abbrev h_G (E:Ev):Prop:=HasD E 3 "is_prime" ["thing"] c_G
noncomputable abbrev h_M (E:Ev):Prop:=HasD E 4 "prime" ["thing"] c_M
noncomputable abbrev h_H (E:Ev):Prop:=HasD E 16 "program" ["P","many","items"] c_H
noncomputable abbrev h_s (E:Ev):Prop:=HasD E 17 "read_items" ["P","names","words"] c_s
noncomputable abbrev h_K (E:Ev):Prop:=HasD E 2 "is_name" ["word"] c_K
noncomputable abbrev h_r (E:Ev):Prop:=HasD E 3 "read_names" ["words"] c_r
noncomputable abbrev h_l (E:Ev):Prop:=HasD E 4 "read_prime" ["words"] c_l
noncomputable abbrev h_e (E:Ev):Prop:=HasF E 1 "words_behind" ["row","first"] c_e
noncomputable abbrev h_O (E:Ev):Prop:=HasD E 18 "read" ["text"] c_O
noncomputable abbrev h_I (E:Ev):Prop:=HasF E 1 "written" ["numbers"] c_I
noncomputable abbrev h_E (E:Ev):Prop:=HasF E 13 "words_of" ["names","items"] (c_E 12)
noncomputable abbrev h_N (E:Ev):Prop:=HasD E 14 "show" ["P","names","items"] c_N
theorem f_z{E:Ev}(B:Bi E)(u_z:Own E "_law_cell" s_z ["script","k"]):h_z E:=by
 exact mkD u_z sc_z rfl rfl fun _ _ _ _ _ _ _ hr hu nd=>(z0d (z2s (z0r x2e (z0b 1) (z0z z4u B.bf (by decide +kernel) (z0a (z0b 0) z0c)) (z0u _)) (z0f (z0w (z2c (z0b 0) (z0b 1)))) z0x)
  (z0f (z0w z0e)))
theorem f_k{E:Ev}(u_k:Own E "_law_count" s_k ["cell"]):h_k E:=by
 exact mkD u_k sc_k rfl rfl fun _ _ _ _ _ _ _ hr hu nd=>(z0f (z0w (z2c (PF.pd (z1z (z0a (z0o z2f (z0o z4d (z0b 0) z0e) z0e) (z0a (z0o z2f (z0o z4d (z0b 0) z0e) z0e) (z0a (z0o z2f (z0o z4d (z0b 0) z0e) (z0o z1w (z0o x4d z0e z0e) z0e)) z0c))))) (z0o z2f (z0b 0) z0e))))
theorem f_g{E:Ev}(B:Bi E)(u_g:Own E "_law_digits" s_g ["cell","P","size"]):h_g E:=by
 exact mkD u_g sc_g rfl rfl fun _ _ _ _ _ _ _ hr hu nd=>(z0d (z2r 3 (z1z z0c) nd)
  (z0d (z7q 4 z3s rfl (z7h (z0b 2) B.bj)
  (z0d (z6p 3 (PD.ro (z0o z2f (z0b 0) (z0b 1))))
  (z0f (z1c 0 (PD.ro (z0o z4d (z0b 0) (z0b 1))) nd))) nd)
  (z0f (z0w (z1d z3n B.bn (by decide +kernel) (z0a (z0b 3) z0c))))))
theorem f_F{E:Ev}(u_F:Own E "_law_set" s_F ["cell","more","P","many"])(p_g:h_g E):h_F E:=by
 obtain⟨_,_,F_g,m_g⟩:=p_g.up (k':=1) (by lia)
 exact mkD u_F sc_F rfl rfl fun _ _ _ _ _ _ _ hr hu nd=>(z0d (z1c 4 (PD.ro (z0o z2f (z0b 0) (z0b 3))) nd)
  (z0d (z1c 5 (PD.ro (z0n F_g hr m_g (z0a (z0b 1) (z0a (z0b 2) (z0a (z0o z1w (z0b 3) z0e) z0c))))) nd)
  (z0d (z2s (PWD.pt (z8p (z0r (z6b hu) (z2c (z0b 5) (z0b 4)) z0e (z0u _)) (z8h (z0r x2f (z0o z2f (z0o z4d (z0b 0) z0e) z0e) z0e (z0u _))))) (z0f (z1c 5 (PD.ro (z0o z1w (z0o z1w (y4j (z0b 5) podN (podS (z0b 4))) (z5s (z0a (z0o z1w z0e (z0o z2f (z0o z4d (z0b 0) z0e) (z0o y2c (z0b 2) z0e))) z0c))) (y4j (z0b 5) (podS (z0o z1w (z0b 4) z0e)) podN))) nd)) z0x)
  (z0f (z0w (z5s (z0a z0m (z0a (z0b 4) (z0a (z0b 5) z0c)))))))))
theorem f_m{E:Ev}(B:Bi E)(u_m:Own E "_law_items" s_m ["cells","P","many","agains"])(p_k:h_k E)(p_F:h_F E):h_m E:=by
 obtain⟨_,_,F_k,m_k⟩:=p_k.up (k':=2) (by lia)
 obtain⟨_,_,F_F,m_F⟩:=p_F.up (k':=2) (by lia)
 exact mkD u_m sc_m rfl rfl fun _ _ _ _ _ _ _ hr hu nd=>(z0d (z2r 4 (z1z z0c) nd)
  (z0d (z2r 5 (z1z z0c) nd)
  (z0d (z7q 6 z3s rfl (y7e z0e (z0o y2c (z0z (x4p rfl) B.bi (by decide +kernel) (z0a (z0z z4u B.bf (by decide +kernel) (z0a (z0b 0) z0c)) (z0a z0e z0c))) z0e) z0e B.bj)
  (z0d (z1c 7 (PD.ro (z0o y2c (z0z z4u B.bf (by decide +kernel) (z0a (z0b 4) z0c)) (z0z (x4p rfl) B.bi (by decide +kernel) (z0a (z0o z2f (z0o z4d (z2c (z0b 0) (z0b 6)) z0e) z0e) (z0a (z0z z4u B.bf (by decide +kernel) (z0a (z0b 4) z0c)) z0c))))) nd)
  (z0d (z1c 8 (PD.ro (z0o z1w z0e (z0z (x6z rfl) B.bh (by decide +kernel) (z0a (PF.pd (z8u (PF.pd (z1z (z0a z0e z0c))) (y4j (z0b 5) (podS (z0b 7)) podN))) z0c)))) nd)
  (z0f (z2s (PWD.pt (z8p (z0r (z6b hu) (z0o z2f (z2c (z0b 0) (z0b 6)) z0e) z0e (z0u _)) (z8p (z0r x2e (z0b 8) z0e (z0u _)) (z8h (z0r x2f (z0b 3) z0e (z0u _)))))) (z0d (z2r 4 (z8u (y4j (z0b 4) podN (podS (z0b 7))) (PF.pd (z1z (z0a (z5s (z0a z0m (z0a (z0n F_k hr m_k (z0a (z2c (z0b 0) (z0o z1w (z0b 6) z0e)) z0c)) (z0a (z1d z3n B.bn (by decide +kernel) (z0a (y4j (z0b 4) (podS (z0b 7)) podN) z0c)) z0c)))) z0c)))) nd)
  (z0d (z2r 5 (z8u (y4j (z0b 5) podN (podS (z0b 7))) (PF.pd (z1z (z0a (z0b 8) z0c)))) nd)
  (z0f (z1c 3 (PD.ro (z0o y2c (z0b 3) z0e)) nd)))) (z0d (z6p 4 (PD.ro (z0n F_F hr m_F (z0a (z0o z4d (z2c (z0b 0) (z0b 6)) z0e) (z0a (z2c (z0b 0) (z0o z1w (z0b 6) z0e)) (z0a (z0b 1) (z0a (z0b 2) z0c)))))))
  (z0f (z6p 5 (PD.ro z0e)))))))) nd)
  (z0f (z0w (z1d z3n B.bn (by decide +kernel) (z0a (z0b 4) z0c)))))))
theorem f_i{E:Ev}(B:Bi E)(u_i:Own E "_law_names" s_i ["cell","more","many"]):h_i E:=by
 exact mkD u_i sc_i rfl rfl fun _ _ _ _ _ _ _ hr hu nd=>(z0d (z1c 3 (PD.ro z0m) nd)
  (z0d (z1c 4 (PD.ro (z0o z1w z0e (z0o z2f (z0b 0) z0e))) nd)
  (z0d (z2r 5 (z1z z0c) nd)
  (z0d (z7q 6 z3s rfl (z7h (z0b 2) B.bj)
  (z0d (z1c 7 (PD.ro z0m) nd)
  (z0d (z7q 8 z3s rfl (z7h (z0b 4) B.bj)
  (z0d (z1c 9 (PD.ro (z0o z1w (z0o z1w (z0o z7t (z0o z4d (z0b 0) z0e) (z0o z1w (z0o z7t z0e (z0b 8)) z0e)) (z0o z7t (z0o z4d (z0b 1) z0e) (z0b 8))) (z0o z7t (z0o z7t z0e (z0b 8)) (z0b 8)))) nd)
  (z0d (z2s (z0r (z6b hu) (z0b 8) (z0o z2f (z0o z4d (z0b 0) z0e) (z0b 4)) (z0u _)) (z0f (z1c 9 (PD.ro (z0o z1w (z0b 9) (z0o z7t (z0o z1w z0e (z0o z7t z0e (z0o z2f (z0b 1) z0e))) (z0b 6)))) nd)) z0x)
  (z0f (z1c 7 (PD.ro (z0o y4m (z0b 7) (x4b (z0b 3) (z0o z2f (z0b 9) z0e)))) nd)))) nd)
  (z0d (z2s (z0r (x9s hu) (z0b 7) (z5s (z0a z0m (z0a z0m z0c))) rfl) (z0f (z1c 7 (PD.ro (z0o y4m (z0b 7) z0m)) nd)) z0x)
  (z0f (z6p 5 (PD.ro (z0b 7))))))) nd)
  (z0f (z0w (z1d z3n B.bn (by decide +kernel) (z0a (z0b 5) z0c))))))))
theorem f_n{E:Ev}(B:Bi E)(u_n:Own E "_law_whole" s_n ["found"]):h_n E:=by
 exact mkD u_n sc_n rfl rfl fun _ _ _ _ _ _ _ hr hu nd=>(z0f (z0w (z6s (z8w z5y (z0b 0) B.be (fun I q=>z2t I rfl B.bd (by decide +kernel) q) x8p) (z7s (x4a (z8w z4b (z0b 0) B.be (fun I q=>z2t I rfl B.bc (by decide +kernel) q) x4i))))))
theorem f_p{E:Ev}(B:Bi E)(u_p:Own E "_law_plain" s_p ["thing"])(p_n:h_n E):∀n:Nat,HasD E (1+n) "_law_plain" ["thing"] (c_p n):=by
 obtain⟨a_p,d_p,Fu_p,hb_p,m_p⟩:=u_p
 have A:∀n:Nat,FnD E.P E.w E.K E.mg E.base (1+n) a_p d_p ["thing"] (c_p n):=by
  intro n
  induction n with
  | zero=>exact y2z (k:=0) Fu_p sc_p hb_p
  | succ n ih =>
    have F_p:=ih
    obtain⟨_,_,F_n,m_n⟩:=p_n.up (k':=1+n) (by lia)
    ·refine z9j (k:=1+n) Fu_p sc_p hb_p (fun ds h=>z2u h) fun cdv A outer s H E hr=>?_
     have nd:=sc_p.nd
     have hu:=hr.units
     refine⟨g_p (c_p n),?_,fun ds hne=>(z7v (z2u hne)).symm⟩
     exact(z0d (z2s (z4a (z8w z3y (z0b 0) B.be (fun I q=>z2t I rfl B.bn (by decide +kernel) q) x6k)) (z0f (z0w (z0z (x1b rfl) B.ba (by decide +kernel) (z0a (PF.pd (z4m (z8t (z0b 0)) (z6t (fun _ _ _ _ _=>(PD.ro (z6r F_p hr m_p (z0a (z0b 0) z0c))))) nd rfl)) z0c)))) z0x)
     (z0f (z0w (x9m (z8w z5x (z0b 0) B.be (fun I q=>z2t I rfl B.bm (by decide +kernel) q) x8o) (z7s (z0n F_n hr m_n (z0a (z0b 0) z0c)))))))
 exact fun n=>⟨_,_,(A n),m_p⟩
theorem f_t{E:Ev}(B:Bi E)(u_t:Own E "_law_prime" s_t ["cell"]):h_t E:=by
 exact mkD u_t sc_t rfl rfl fun _ _ _ _ _ _ _ hr hu nd=>(z0d (z2s (z0r (z6b hu) (z0o z2f (z0b 0) z0e) z0e (z0u _)) (z0f (z0w (z2c (z5s y7h) (z0o z2f (z0o z4d (z0b 0) z0e) z0e)))) z0x)
  (z0d (z1c 1 (PD.ro (z0o z1w z0e (z0o z2f (z0o z4d (z0b 0) z0e) z0e))) nd)
  (z0d (y5s 10000 z3s (z4a (z0z (x8v rfl) B.bb (by decide +kernel) (z0a (PF.pd (z4m (PIx.pic (y7f z0e z0e B.bj)) (x5q (fun _ _ _ _ _=>(z0r x2e (z0b 0) (z0b 2) (z0u _))) (fun _ _ _ _ _=>(PD.ro (z6q (z6b hu) (z0o z2f (z0b 2) (z0b 0)) z0e (z0u _))))) nd rfl)) z0c))) (z0f (z1c 1 (PD.ro (z0o z1w (z0b 1) z0e)) nd)))
  (z0f (z0w (z0b 1))))))
theorem f_o{E:Ev}(B:Bi E)(u_o:Own E "_law_words" s_o ["names","items"]):∀n:Nat,HasF E (1+n) "_law_words" ["names","items"] (c_o n):=by
 obtain⟨a_o,d_o,Fu_o,hb_o,m_o⟩:=u_o
 have A:∀n:Nat,FnF E.P E.w E.K E.mg E.base (1+n) a_o d_o ["names","items"] (c_o n):=by
  intro n
  induction n with
  | zero=>exact x0o (k:=0) Fu_o sc_o hb_o
  | succ n ih =>
    have F_o:=ih
    ·refine y6g (k:=1+n) Fu_o sc_o hb_o (fun ds h=>z5g h) fun cdv A outer s H E hr=>?_
     have nd:=sc_o.nd
     have hu:=hr.units
     refine⟨g_o (c_o n),?_,fun ds hne=>(y2y (z5g hne)).symm⟩
     exact(z0d (z2r 2 (z1z z0c) nd)
     (z0d (z7q 3 z3s rfl (z7g (z1m 1))
     (z0f (z2s (z0r (z6b hu) (z2c (z0b 3) z0e) z0m (z0u _)) (z0f (z2r 2 (z5r (z8u (z0b 2) (PF.pd (z1z (z0a z0m (z0a (z2c (z0b 0) (z2c (z0b 3) z0e)) z0c))))) (z4m (z8t (z2c (z0b 3) z0e)) (z6t (fun _ _ _ _ _=>(PD.ro (z1d y0q B.bm (by decide +kernel) (z0a (z0b 0) z0c))))) nd rfl)) nd)) (z0f (z2r 2 (z5r (z5r (z8u (z0b 2) (PF.pd (z1z (z0a z0m (z0a (z1d y0q B.bm (by decide +kernel) (z0a (z2c (z0b 3) z0e) z0c)) (z0a z0m z0c)))))) (z4n F_o hr m_o (z0a (z0b 0) (z0a (z2c (z0b 3) z0e) z0c)))) (z1z (z0a z0m z0c))) nd)))) nd)
     (z0f (y8s 2))))
 exact fun n=>⟨_,_,(A n),m_o⟩
theorem f_A{E:Ev}(B:Bi E)(u_A:Own E "_law_text" s_A ["P","names","items"])(p_o:h_o E):h_A E:=by
 obtain⟨_,_,F_o,m_o⟩:=p_o.up (k':=13) (by lia)
 exact mkD u_A sc_A rfl rfl fun _ _ _ _ _ _ _ hr hu nd=>(z0d (z2r 3 (z1z (z0a (z0o y4m z0m (z1d y0q B.bm (by decide +kernel) (z0a (z0b 0) z0c))) (z0a (z8v (PF.pd (z5r (z1z (z0a z0m z0c)) (y4i (z0b 1) B.bg (by decide +kernel))))) (z0a (z8v (PF.pd (z5r (z1z (z0a z0m z0c)) (z4n F_o hr m_o (z0a (z0b 1) (z0a (z0b 2) z0c)))))) z0c)))) nd)
  (z0f (z0w (z8v (z0b 3)))))
theorem f_u{E:Ev}(B:Bi E)(u_u:Own E "is_made_of" s_u ["word","signs","most"]):h_u E:=by
 exact mkD u_u sc_u rfl rfl fun _ _ _ _ _ _ _ hr hu nd=>(z0f (z0w (z6s (z6q y9i z0e (z0z x1a B.bf (by decide +kernel) (z0a (z0b 0) z0c)) (z0u _)) (z6s (z6q y9i (z0z x1a B.bf (by decide +kernel) (z0a (z0b 0) z0c)) (z0b 2) (z0u _)) (z7s (z0z (x1b rfl) B.ba (by decide +kernel) (z0a (PF.pd (z4m (x2c (z0b 0)) (z6t (fun _ _ _ _ _=>(PD.ro (z6q x8a (z0b 0) (z0b 2) rfl)))) nd rfl)) z0c)))))))
theorem f_f{E:Ev}(B:Bi E)(u_f:Own E "number_from" s_f ["word"])(p_u:h_u E):h_f E:=by
 obtain⟨_,_,F_u,m_u⟩:=p_u.up (k':=1) (by lia)
 exact mkD u_f sc_f rfl rfl fun _ _ _ _ _ _ _ hr hu nd=>(z0d (z2s (PWD.pt (y5q (z4l (z4a (z0n F_u hr m_u (z0a (z0b 0) (z0a (y9e B.bo ⟨_,rfl⟩) (z0a (z4o B.bu ⟨_,rfl⟩) z0c)))))) (y3x (PWD.pt (z8p (z0r (z6b hu) (x4b (z0b 0) z0e) z0m (z0u _)) (z8h (z0r (y1e hu) (z0b 0) z0m (z0u _)))))))) (z0f (z1l B.ce z0m rfl)) z0x)
  (z0f (z0w (z1d x7a B.bd (by decide +kernel) (z0a (z0b 0) z0c)))))
theorem f_L{E:Ev}(B:Bi E)(u_L:Own E "taken" s_L ["words","count"]):h_L E:=by
 exact mkM u_L sc_L rfl rfl fun _ _ _ _ _ _ _ hr hu nd=>(PW.e (z3g (x5n (z0r x2e (z0z z4u B.bf (by decide +kernel) (z0a (z0b 0) z0c)) (z0b 1) (z0u _)) y4d y4c)
  (x5h (z0b 1) (fun _ _ _ _ _=>x9h 1) nd rfl B.bj)))
theorem f_x{E:Ev}(u_x:Own E "take_sign" s_x ["words","sign"])(p_L:h_L E):h_x E:=by
 obtain⟨_,_,F_L,m_L⟩:=p_L.up (k':=1) (by lia)
 exact mkM u_x sc_x rfl rfl fun _ _ _ _ _ _ _ hr hu nd=>(PKs.e (y8y (y8z (y1e hu) (z2j F_L hr m_L (z2k 0 rfl (z0p (PD.ro z0e) z1i))) (PF.pd (z1z (z0a (z0b 1) z0c))))))
theorem f_a{E:Ev}(B:Bi E)(u_a:Own E "number_on_wheel" s_a ["P","word"])(p_f:h_f E):h_a E:=by
 obtain⟨_,_,F_f,m_f⟩:=p_f.up (k':=2) (by lia)
 exact mkD u_a sc_a rfl rfl fun _ _ _ _ _ _ _ hr hu nd=>(z0d (z1c 2 (PD.ro (z0n F_f hr m_f (z0a (z0b 1) z0c))) nd)
  (z0d (z2s (z0r x5y (z0b 2) (z0b 0) (z0u _)) (z0f (z1l B.ce z0m rfl)) z0x)
  (z0f (z0w (z0b 2)))))
theorem f_D{E:Ev}(B:Bi E)(u_D:Own E "set_from" s_D ["P","names","words"])(p_a:h_a E)(p_L:h_L E):h_D E:=by
 obtain⟨_,_,F_a,m_a⟩:=p_a.up (k':=3) (by lia)
 obtain⟨_,_,F_L,m_L⟩:=p_L.up (k':=3) (by lia)
 exact mkM u_D sc_D rfl rfl fun _ _ _ _ _ _ _ hr hu nd=>(PW.e (z3g (z8s 3 (y9a (z2j F_L hr m_L (z2k 2 rfl (z0p (PD.ro z0e) z1i))) z0e) nd)
  (z3g (x5n (z0r (y2d hu) (z0b 3) (z0b 1) rfl) y4d y4c)
  (z3g (y4e 4 (z2j F_L hr m_L (z2k 2 rfl (z0p (PD.ro (z0o z1w (z0z z4u B.bf (by decide +kernel) (z0a (z0b 1) z0c)) z0e)) z1i))) (z6t (fun _ _ _ _ _=>(PD.ro (z6r F_a hr m_a (z0a (z0b 1) (z0a (z0b 0) z0c)))))) nd rfl)
  (y8q (y9c (z0p (PD.ro z0m) (z0p (PD.ro (y9d (z0b 1) (z0b 3))) (z0p (PD.ro (z1d z3n B.bn (by decide +kernel) (z0a (z0b 4) z0c))) z1i)))))))))
theorem f_v{E:Ev}(B:Bi E)(u_v:Own E "again_from" s_v ["P","names","words","around"])(u_y:Own E "item_from" s_y ["P","names","words","around"])(u_h:Own E "items_from" s_h ["P","names","words","around"])(p_f:h_f E)(p_x:h_x E)(p_L:h_L E)(p_D:h_D E):∀n:Nat,HasM E (4+n) "again_from" ["P","names","words","around"] 2 (c_v n)/\HasM E (4+n) "item_from" ["P","names","words","around"] 2 (c_y n)/\HasM E (4+n) "items_from" ["P","names","words","around"] 2 (c_h n):=by
 obtain⟨a_v,d_v,Fu_v,hb_v,m_v⟩:=u_v
 obtain⟨a_y,d_y,Fu_y,hb_y,m_y⟩:=u_y
 obtain⟨a_h,d_h,Fu_h,hb_h,m_h⟩:=u_h
 have A:∀n:Nat,FnM E.P E.w E.K E.mg E.base (4+n) a_v d_v ["P","names","words","around"] 2 (c_v n)/\FnM E.P E.w E.K E.mg E.base (4+n) a_y d_y ["P","names","words","around"] 2 (c_y n)/\FnM E.P E.w E.K E.mg E.base (4+n) a_h d_h ["P","names","words","around"] 2 (c_h n):=by
  intro n
  induction n with
  | zero=>exact⟨x0n (k:=3) Fu_v sc_v hb_v,x0n (k:=3) Fu_y sc_y hb_y,x0n (k:=3) Fu_h sc_h hb_h⟩
  | succ n ih =>
    obtain⟨F_v,F_y,F_h⟩:=ih
    obtain⟨_,_,F_f,m_f⟩:=p_f.up (k':=4+n) (by lia)
    obtain⟨_,_,F_x,m_x⟩:=p_x.up (k':=4+n) (by lia)
    obtain⟨_,_,F_L,m_L⟩:=p_L.up (k':=4+n) (by lia)
    obtain⟨_,_,F_D,m_D⟩:=p_D.up (k':=4+n) (by lia)
    refine⟨?_,?_,?_⟩
    ·refine z9i (k:=4+n) Fu_v sc_v hb_v (fun ds h=>z5f h) fun cdv A outer s H E hr=>?_
     have nd:=sc_v.nd
     have hu:=hr.units
     refine⟨g_v (c_v n) (c_y n) (c_h n),?_,fun as ws bs hi hne _=>(z5w hi (z5f hne)).symm⟩
     exact(PW.e (z3g (x5n (z0r x5y (z0b 3) (z4o B.bt ⟨_,rfl⟩) (z0u _)) y4d y4c)
     (z3g (z8s 4 (y9b F_f hr m_f (y9a (z2j F_L hr m_L (z2k 2 rfl (z0p (PD.ro z0e) z1i))) z0e)) nd)
     (z3g (x3z (z2j F_x hr m_x (z2k 2 rfl (z0p (PD.ro z0m) z1i))))
     (z3g (z8s 5 (z2j F_h hr m_h (z3a (z1m 0) (z3a (z1m 1) (z2k 2 rfl (z0p (PD.ro (z0o z1w (z0b 3) z0e)) z1i))))) nd)
     (z3g (x3z (z2j F_x hr m_x (z2k 2 rfl (z0p (PD.ro z0m) z1i))))
     (y8q (y9c (z0p (PD.ro z0m) (z0p (z1m 4) (z0p (z1m 5) z1i)))))))))))
    ·refine z9i (k:=4+n) Fu_y sc_y hb_y (fun ds h=>z5f h) fun cdv A outer s H E hr=>?_
     have nd:=sc_y.nd
     have hu:=hr.units
     refine⟨g_y (c_v n) (c_y n) (c_h n),?_,fun as ws bs hi hne _=>(z5w hi (z5f hne)).symm⟩
     exact(PW.e (z3g (z8s 4 (y9a (z2j F_L hr m_L (z2k 2 rfl (z0p (PD.ro z0e) z1i))) z0e) nd)
     (x7m (z0r (z6b hu) (z0b 4) z0m (z0u _)) (y8p (z2j F_D hr m_D (z3a (z1m 0) (z3a (z1m 1) (z2k 2 rfl z1i)))))
     (x7m (z0r (z6b hu) (z0b 4) z0m (z0u _)) (y8p (z2j F_v hr m_v (z3a (z1m 0) (z3a (z1m 1) (z2k 2 rfl (z0p (z1m 3) z1i))))))
     x3v))))
    ·refine z9i (k:=4+n) Fu_h sc_h hb_h (fun ds h=>z5f h) fun cdv A outer s H E hr=>?_
     have nd:=sc_h.nd
     have hu:=hr.units
     refine⟨g_h (c_v n) (c_y n) (c_h n),?_,fun as ws bs hi hne _=>(z5w hi (z5f hne)).symm⟩
     exact(PW.e (z3g (x5m 4 (z1z z0c) nd)
     (z3g (x2a 200 z3s (PWD.pt (z8p (y3y (z0b 2)) (z8h (z0r (y1e hu) (z2c (z0b 2) (x7t z0e)) z0m (z0u _))))) (y8y (x5o 4 (z2j F_y hr m_y (z3a (z1m 0) (z3a (z1m 1) (z2k 2 rfl (z0p (z1m 3) z1i))))))))
     (y8q (PD.ro (z1d z3n B.bn (by decide +kernel) (z0a (z0b 4) z0c)))))))
 exact fun n=>⟨⟨_,_,(A n).1,m_v⟩,⟨_,_,(A n).2.1,m_y⟩,⟨_,_,(A n).2.2,m_h⟩⟩
theorem f_B{E:Ev}(B:Bi E)(u_B:Own E "is_whole" s_B ["thing"]):h_B E:=by
 exact mkD u_B sc_B rfl rfl fun _ _ _ _ _ _ _ hr hu nd=>(z0f (z0w (z6s (z8w z5y (z0b 0) B.be (fun I q=>z2t I rfl B.bd (by decide +kernel) q) x8p) (z7s (x4a (z8w z4b (z0b 0) B.be (fun I q=>z2t I rfl B.bc (by decide +kernel) q) x4i))))))
theorem f_J{E:Ev}(u_J:Own E "is_from" s_J ["thing","least","most"])(p_B:h_B E):h_J E:=by
 obtain⟨_,_,F_B,m_B⟩:=p_B.up (k':=1) (by lia)
 exact mkD u_J sc_J rfl rfl fun _ _ _ _ _ _ _ hr hu nd=>(z0f (z0w (z6s (z0n F_B hr m_B (z0a (z0b 0) z0c)) (z6s (z6q y9i (z0b 1) (z0b 0) (z0u _)) (z7s (z6q y9i (z0b 0) (z0b 2) (z0u _)))))))
theorem f_b{E:Ev}(B:Bi E)(u_b:Own E "items_counted" s_b ["items","ahead"]):∀n:Nat,HasD E (1+n) "items_counted" ["items","ahead"] (c_b n):=by
 obtain⟨a_b,d_b,Fu_b,hb_b,m_b⟩:=u_b
 have A:∀n:Nat,FnD E.P E.w E.K E.mg E.base (1+n) a_b d_b ["items","ahead"] (c_b n):=by
  intro n
  induction n with
  | zero=>exact y2z (k:=0) Fu_b sc_b hb_b
  | succ n ih =>
    have F_b:=ih
    ·refine z9j (k:=1+n) Fu_b sc_b hb_b (fun ds h=>z2u h) fun cdv A outer s H E hr=>?_
     have nd:=sc_b.nd
     have hu:=hr.units
     refine⟨g_b (c_b n),?_,fun ds hne=>(z7v (z2u hne)).symm⟩
     exact(z0d (z1c 2 (PD.ro (z0b 1)) nd)
     (z0d (z7q 3 z3s rfl (z7g (z1m 0))
     (z0d (z1c 2 (PD.ro (z0o z1w (z0b 2) z0e)) nd)
     (z0d (z2s (z0r x2f (z0b 2) (z4o B.bv ⟨_,rfl⟩) (z0u _)) (z0f (z1l B.cd z0m rfl)) z0x)
     (z0f (z2s (z0r (z6b hu) (z2c (z0b 3) z0e) z0m (z0u _)) (z0f (z1c 2 (PD.ro (z0n F_b hr m_b (z0a (z2c (z0b 3) z0e) (z0a (z0b 2) z0c)))) nd)) z0x)))) nd)
     (z0f (z0w (z0b 2)))))
 exact fun n=>⟨_,_,(A n),m_b⟩
theorem f_on{E:Ev}(u_on:Own E "on" s_on ["P","n"]):h_on E:=by
 exact mkD u_on x9a rfl rfl fun _ _ _ _ _ _ _ hr hu nd=>(z0f (z0w (z0o z2f (z0b 1) (z0b 0))))
theorem f_C{E:Ev}(B:Bi E)(u_C:Own E "made_set" s_C ["P","many","x","form"])(p_J:h_J E)(p_on:h_on E):h_C E:=by
 obtain⟨_,_,F_J,m_J⟩:=p_J.up (k':=2) (by lia)
 obtain⟨_,_,F_on,m_on⟩:=p_on.up (k':=2) (by lia)
 exact mkD u_C sc_C rfl rfl fun _ _ _ _ _ _ _ hr hu nd=>(z0d (z2s (z4l (z4a (z0n F_J hr m_J (z0a (z0b 2) (z0a z0e (z0a (z0o y2c (z0b 1) z0e) z0c)))))) (z0f (z1l B.cd z0m rfl)) z0x)
  (z0d (z2s (z0r (y1e hu) (z0z z4u B.bf (by decide +kernel) (z0a (z0b 3) z0c)) (z0o z1w (z0b 1) z0e) (z0u _)) (z0f (z1l B.cd z0m rfl)) z0x)
  (z0f (z0w (z5s (z0a z0m (z0a (z0b 2) (z0a (z1d z3n B.bn (by decide +kernel) (z0a (PF.pd (z4m (z8t (z0b 3)) (z6t (fun _ _ _ _ _=>(PD.ro (z6r F_on hr m_on (z0a (z0b 1) (z0a (z0b 0) z0c)))))) nd rfl)) z0c)) z0c))))))))
theorem f_j{E:Ev}(B:Bi E)(u_j:Own E "made_again" s_j ["P","many","n","items","around"])(u_w:Own E "made_item" s_w ["P","many","item","around"])(u_q:Own E "made_items" s_q ["P","many","items","around"])(p_J:h_J E)(p_C:h_C E):∀n:Nat,HasD E (3+n) "made_again" ["P","many","n","items","around"] (c_j n)/\HasD E (3+n) "made_item" ["P","many","item","around"] (c_w n)/\HasD E (3+n) "made_items" ["P","many","items","around"] (c_q n):=by
 obtain⟨a_j,d_j,Fu_j,hb_j,m_j⟩:=u_j
 obtain⟨a_w,d_w,Fu_w,hb_w,m_w⟩:=u_w
 obtain⟨a_q,d_q,Fu_q,hb_q,m_q⟩:=u_q
 have A:∀n:Nat,FnD E.P E.w E.K E.mg E.base (3+n) a_j d_j ["P","many","n","items","around"] (c_j n)/\FnD E.P E.w E.K E.mg E.base (3+n) a_w d_w ["P","many","item","around"] (c_w n)/\FnD E.P E.w E.K E.mg E.base (3+n) a_q d_q ["P","many","items","around"] (c_q n):=by
  intro n
  induction n with
  | zero=>exact⟨y2z (k:=2) Fu_j sc_j hb_j,y2z (k:=2) Fu_w sc_w hb_w,y2z (k:=2) Fu_q sc_q hb_q⟩
  | succ n ih =>
    obtain⟨F_j,F_w,F_q⟩:=ih
    obtain⟨_,_,F_J,m_J⟩:=p_J.up (k':=3+n) (by lia)
    obtain⟨_,_,F_C,m_C⟩:=p_C.up (k':=3+n) (by lia)
    refine⟨?_,?_,?_⟩
    ·refine z9j (k:=3+n) Fu_j sc_j hb_j (fun ds h=>z2u h) fun cdv A outer s H E hr=>?_
     have nd:=sc_j.nd
     have hu:=hr.units
     refine⟨g_j (c_j n) (c_w n) (c_q n),?_,fun ds hne=>(z7v (z2u hne)).symm⟩
     exact(z0d (z2s (z0r x5y (z0b 4) (z4o B.bt ⟨_,rfl⟩) (z0u _)) (z0f (z1l B.cd z0m rfl)) z0x)
     (z0d (z2s (z4l (z4a (z0n F_J hr m_J (z0a (z0b 2) (z0a z0e (z0a (z0o x4d z0e z0e) z0c)))))) (z0f (z1l B.cd z0m rfl)) z0x)
     (z0f (z0w (z5s (z0a z0m (z0a (z0b 2) (z0a (z0n F_q hr m_q (z0a (z0b 0) (z0a (z0b 1) (z0a (z0b 3) (z0a (z0o z1w (z0b 4) z0e) z0c))))) z0c))))))))
    ·refine z9j (k:=3+n) Fu_w sc_w hb_w (fun ds h=>z2u h) fun cdv A outer s H E hr=>?_
     have nd:=sc_w.nd
     have hu:=hr.units
     refine⟨g_w (c_j n) (c_w n) (c_q n),?_,fun ds hne=>(z7v (z2u hne)).symm⟩
     exact(z0d (z2s (z0r (z6b hu) (z2c (z0b 2) z0e) z0m (z0u _)) (z0f (z0w (z0n F_C hr m_C (z0a (z0b 0) (z0a (z0b 1) (z0a (z2c (z0b 2) z0e) (z0a (z2c (z0b 2) z0e) z0c))))))) z0x)
     (z0f (z0w (z0n F_j hr m_j (z0a (z0b 0) (z0a (z0b 1) (z0a (z2c (z0b 2) z0e) (z0a (z2c (z0b 2) z0e) (z0a (z0b 3) z0c)))))))))
    ·refine z9j (k:=3+n) Fu_q sc_q hb_q (fun ds h=>z2u h) fun cdv A outer s H E hr=>?_
     have nd:=sc_q.nd
     have hu:=hr.units
     refine⟨g_q (c_j n) (c_w n) (c_q n),?_,fun ds hne=>(z7v (z2u hne)).symm⟩
     exact(z0f (z0w (z1d z3n B.bn (by decide +kernel) (z0a (PF.pd (z4m (PIx.pic (z7g (z1m 2))) (z6t (fun _ _ _ _ _=>(PD.ro (z6r F_w hr m_w (z0a (z0b 1) (z0a (z0b 2) (z0a (z0b 0) (z0a (z0b 4) z0c)))))))) nd rfl)) z0c))))
 exact fun n=>⟨⟨_,_,(A n).1,m_j⟩,⟨_,_,(A n).2.1,m_w⟩,⟨_,_,(A n).2.2,m_q⟩⟩
theorem f_d{E:Ev}(u_d:Own E "least_divisor" s_d ["n"]):h_d E:=by
 exact mkD u_d sc_d rfl rfl fun _ _ _ _ _ _ _ hr hu nd=>(z0d (z1c 1 (PD.ro z0e) nd)
  (z0d (y5s 10000 z3s (z0r y9i (z0o z7t (z0b 1) (z0b 1)) (z0b 0) (z0u _)) (z0d (z2s (z0r (z6b hu) (z0o z2f (z0b 0) (z0b 1)) z0e (z0u _)) (z0f (z0w (z0b 1))) z0x)
  (z0f (z1c 1 (PD.ro (z0o z1w (z0b 1) z0e)) nd))))
  (z0f (z0w (z0b 0)))))
theorem f_G{E:Ev}(B:Bi E)(u_G:Own E "is_prime" s_G ["thing"])(p_J:h_J E)(p_d:h_d E):h_G E:=by
 obtain⟨_,_,F_J,m_J⟩:=p_J.up (k':=2) (by lia)
 obtain⟨_,_,F_d,m_d⟩:=p_d.up (k':=2) (by lia)
 exact mkD u_G sc_G rfl rfl fun _ _ _ _ _ _ _ hr hu nd=>(z0f (z0w (z6s (z0n F_J hr m_J (z0a (z0b 0) (z0a (z4o B.bq ⟨_,rfl⟩) (z0a (z4o B.bp ⟨_,rfl⟩) z0c)))) (z7s (z6q (z6b hu) (z0n F_d hr m_d (z0a (z0b 0) z0c)) (z0b 0) (z0u _))))))
theorem f_M{E:Ev}(B:Bi E)(u_M:Own E "prime" s_M ["thing"])(p_G:h_G E):h_M E:=by
 obtain⟨_,_,F_G,m_G⟩:=p_G.up (k':=3) (by lia)
 exact mkD u_M sc_M rfl rfl fun _ _ _ _ _ _ _ hr hu nd=>(z0d (z2s (z4l (z4a (z0n F_G hr m_G (z0a (z0b 0) z0c)))) (z0f (z1l B.cc z0m rfl)) z0x)
  (z0f (z0w (z0b 0))))
theorem f_H{E:Ev}(B:Bi E)(u_H:Own E "program" s_H ["P","many","items"])(p_J:h_J E)(p_b:h_b E)(p_q:h_q E)(p_M:h_M E):h_H E:=by
 obtain⟨_,_,F_J,m_J⟩:=p_J.up (k':=15) (by lia)
 obtain⟨_,_,F_b,m_b⟩:=p_b.up (k':=15) (by lia)
 obtain⟨_,_,F_q,m_q⟩:=p_q.up (k':=15) (by lia)
 obtain⟨_,_,F_M,m_M⟩:=p_M.up (k':=15) (by lia)
 exact mkD u_H sc_H rfl rfl fun _ _ _ _ _ _ _ hr hu nd=>(z0d (y8u (z0n F_M hr m_M (z0a (z0b 0) z0c)))
  (z0d (z2s (z4l (z4a (z0n F_J hr m_J (z0a (z0b 1) (z0a z0e (z0a (z4o B.bs ⟨_,rfl⟩) z0c)))))) (z0f (z1l B.cd z0m rfl)) z0x)
  (z0d (y8u (z0n F_b hr m_b (z0a (z0b 2) (z0a z0e z0c))))
  (z0f (z0w (z0n F_q hr m_q (z0a (z0b 0) (z0a (z0b 1) (z0a (z0b 2) (z0a z0e z0c))))))))))
theorem f_s{E:Ev}(B:Bi E)(u_s:Own E "read_items" s_s ["P","names","words"])(p_h:h_h E)(p_H:h_H E):h_s E:=by
 obtain⟨_,_,F_h,m_h⟩:=p_h.up (k':=16) (by lia)
 obtain⟨_,_,F_H,m_H⟩:=p_H.up (k':=16) (by lia)
 exact mkD u_s sc_s rfl rfl fun _ _ _ _ _ _ _ hr hu nd=>(z0d (z2r 3 (y7g (z0b 2) B.bk B.bg rfl) nd)
  (z0d (PK.pq (z8s 4 (z2j F_h hr m_h (z3a (z1m 0) (z3a (z1m 1) (z2k 3 rfl (z0p (PD.ro z0e) z1i))))) nd))
  (z0d (z2s (y3y (z0b 3)) (z0f (z1l B.ce z0m rfl)) z0x)
  (z0f (x5i (z0f (z0w (z0n F_H hr m_H (z0a (z0b 0) (z0a (z0z z4u B.bf (by decide +kernel) (z0a (z0b 1) z0c)) (z0a (z0b 4) z0c)))))))))))
theorem f_K{E:Ev}(B:Bi E)(u_K:Own E "is_name" s_K ["word"])(p_u:h_u E):h_K E:=by
 obtain⟨_,_,F_u,m_u⟩:=p_u.up (k':=1) (by lia)
 exact mkD u_K sc_K rfl rfl fun _ _ _ _ _ _ _ hr hu nd=>(z0f (z0w (z6s (z0n F_u hr m_u (z0a (z0b 0) (z0a (y9e B.br ⟨_,rfl⟩) (z0a (z4o B.bw ⟨_,rfl⟩) z0c)))) (z7s (z6q (y2d hu) (z0b 0) (z5s (z0a z0m (z0a z0m z0c))) rfl)))))
theorem f_r{E:Ev}(B:Bi E)(u_r:Own E "read_names" s_r ["words"])(p_K:h_K E):h_r E:=by
 obtain⟨_,_,F_K,m_K⟩:=p_K.up (k':=2) (by lia)
 exact mkD u_r sc_r rfl rfl fun _ _ _ _ _ _ _ hr hu nd=>(z0d (z2s (PWD.pt (y5q (z4l (y3y (z0b 0))) (y5q (z0r x2f (z0z z4u B.bf (by decide +kernel) (z0a (z0b 0) z0c)) (z4o B.bs ⟨_,rfl⟩) (z0u _)) (y3x (z0r (y1e hu) (x2d (z0b 0) B.bf B.bl rfl) (z0z z4u B.bf (by decide +kernel) (z0a (z0b 0) z0c)) (z0u _)))))) (z0f (z1l B.ce z0m rfl)) z0x)
  (z0d (z2s (z4l (z4a (z0z (x1b rfl) B.ba (by decide +kernel) (z0a (PF.pd (z4m (z8t (z0b 0)) (z6t (fun _ _ _ _ _=>(PD.ro (z6r F_K hr m_K (z0a (z0b 0) z0c))))) nd rfl)) z0c)))) (z0f (z1l B.ce z0m rfl)) z0x)
  (z0f (z0w (z1d z3n B.bn (by decide +kernel) (z0a (z0b 0) z0c))))))
theorem f_l{E:Ev}(B:Bi E)(u_l:Own E "read_prime" s_l ["words"])(p_G:h_G E)(p_f:h_f E):h_l E:=by
 obtain⟨_,_,F_G,m_G⟩:=p_G.up (k':=3) (by lia)
 obtain⟨_,_,F_f,m_f⟩:=p_f.up (k':=3) (by lia)
 exact mkD u_l sc_l rfl rfl fun _ _ _ _ _ _ _ hr hu nd=>(z0d (z2s (z0r (y1e hu) (z0z z4u B.bf (by decide +kernel) (z0a (z0b 0) z0c)) z0e (z0u _)) (z0f (z1l B.ce z0m rfl)) z0x)
  (z0d (z1c 1 (PD.ro (z0n F_f hr m_f (z0a (z2c (z0b 0) z0e) z0c))) nd)
  (z0d (z2s (z4l (z4a (z0n F_G hr m_G (z0a (z0b 1) z0c)))) (z0f (z1l B.ce z0m rfl)) z0x)
  (z0f (z0w (z0b 1))))))
theorem f_e{E:Ev}(B:Bi E)(u_e:Own E "words_behind" s_e ["row","first"]):h_e E:=by
 exact mkF u_e sc_e rfl rfl fun _ _ _ _ _ _ _ hr hu nd=>(z0d (z2r 2 (y5t (z0b 0)) nd)
  (z0d (z2s (z0r (y1e hu) (z2c (z0b 2) z0e) (z0b 1) (z0u _)) (z0f (z1l B.ce z0m rfl)) z0x)
  (z0f (y1d (x9k (z0b 2) (podS z0e) podN)))))
theorem f_O{E:Ev}(B:Bi E)(u_O:Own E "read" s_O ["text"])(p_s:h_s E)(p_r:h_r E)(p_l:h_l E)(p_e:h_e E):h_O E:=by
 obtain⟨_,_,F_s,m_s⟩:=p_s.up (k':=17) (by lia)
 obtain⟨_,_,F_r,m_r⟩:=p_r.up (k':=17) (by lia)
 obtain⟨_,_,F_l,m_l⟩:=p_l.up (k':=17) (by lia)
 obtain⟨_,_,F_e,m_e⟩:=p_e.up (k':=17) (by lia)
 exact mkD u_O sc_O rfl rfl fun _ _ _ _ _ _ _ hr hu nd=>(z0d (z2r 1 (y5t (z0b 0)) nd)
  (z0d (z2s (z0r (y1e hu) (z0z z4u B.bf (by decide +kernel) (z0a (z0b 1) z0c)) z0e (z0u _)) (z0f (z1l B.ce z0m rfl)) z0x)
  (z0d (z1c 2 (PD.ro (z0n F_l hr m_l (z0a (PF.pd (z4n F_e hr m_e (z0a (z2c (z0b 1) z0e) (z0a z0m z0c)))) z0c))) nd)
  (z0d (z1c 3 (PD.ro (z0n F_r hr m_r (z0a (PF.pd (z4n F_e hr m_e (z0a (z2c (z0b 1) z0e) (z0a z0m z0c)))) z0c))) nd)
  (z0f (z0w (z5s (z0a (z0b 2) (z0a (z0b 3) (z0a (z0n F_s hr m_s (z0a (z0b 2) (z0a (z0b 3) (z0a (PF.pd (z4n F_e hr m_e (z0a (z2c (z0b 1) z0e) (z0a z0m z0c)))) z0c)))) z0c))))))))))
theorem f_I{E:Ev}(B:Bi E)(u_I:Own E "written" s_I ["numbers"]):h_I E:=by
 exact mkF u_I sc_I rfl rfl fun _ _ _ _ _ _ _ hr hu nd=>(z0f (y1d (z4m (z8t (z0b 0)) (z6t (fun _ _ _ _ _=>(PD.ro (z1d y0q B.bm (by decide +kernel) (z0a (z0b 0) z0c))))) nd rfl)))
theorem f_E{E:Ev}(B:Bi E)(u_E:Own E "words_of" s_E ["names","items"])(u_c:Own E "words_of_item" s_c ["names","item"])(p_I:h_I E):∀n:Nat,HasF E (1+n) "words_of" ["names","items"] (c_E n)/\HasF E (1+n) "words_of_item" ["names","item"] (c_c n):=by
 obtain⟨a_E,d_E,Fu_E,hb_E,m_E⟩:=u_E
 obtain⟨a_c,d_c,Fu_c,hb_c,m_c⟩:=u_c
 have A:∀n:Nat,FnF E.P E.w E.K E.mg E.base (1+n) a_E d_E ["names","items"] (c_E n)/\FnF E.P E.w E.K E.mg E.base (1+n) a_c d_c ["names","item"] (c_c n):=by
  intro n
  induction n with
  | zero=>exact⟨x0o (k:=0) Fu_E sc_E hb_E,x0o (k:=0) Fu_c sc_c hb_c⟩
  | succ n ih =>
    obtain⟨F_E,F_c⟩:=ih
    obtain⟨_,_,F_I,m_I⟩:=p_I.up (k':=1+n) (by lia)
    refine⟨?_,?_⟩
    ·refine y6g (k:=1+n) Fu_E sc_E hb_E (fun ds h=>z5g h) fun cdv A outer s H E hr=>?_
     have nd:=sc_E.nd
     have hu:=hr.units
     refine⟨g_E (c_E n) (c_c n),?_,fun ds hne=>(y2y (z5g hne)).symm⟩
     exact(z0d (z2r 2 (z1z z0c) nd)
     (z0d (z7q 3 z3s rfl (z7g (z1m 1))
     (z0f (y8t 2 (z4n F_c hr m_c (z0a (z0b 0) (z0a (z0b 3) z0c))))) nd)
     (z0f (y8s 2))))
    ·refine y6g (k:=1+n) Fu_c sc_c hb_c (fun ds h=>z5g h) fun cdv A outer s H E hr=>?_
     have nd:=sc_c.nd
     have hu:=hr.units
     refine⟨g_c (c_E n) (c_c n),?_,fun ds hne=>(y2y (z5g hne)).symm⟩
     exact(z0d (z2s (z0r (z6b hu) (z2c (z0b 1) z0e) z0m (z0u _)) (z0f (y1d (z5r (z1z (z0a z0m (z0a (z2c (z0b 0) (z2c (z0b 1) z0e)) z0c))) (z4n F_I hr m_I (z0a (z2c (z0b 1) z0e) z0c))))) z0x)
     (z0f (y1d (z5r (z5r (z1z (z0a z0m (z0a (z1d y0q B.bm (by decide +kernel) (z0a (z2c (z0b 1) z0e) z0c)) (z0a z0m z0c)))) (z4n F_E hr m_E (z0a (z0b 0) (z0a (z2c (z0b 1) z0e) z0c)))) (z1z (z0a z0m z0c))))))
 exact fun n=>⟨⟨_,_,(A n).1,m_E⟩,⟨_,_,(A n).2,m_c⟩⟩
theorem f_N{E:Ev}(B:Bi E)(u_N:Own E "show" s_N ["P","names","items"])(p_E:h_E E):h_N E:=by
 obtain⟨_,_,F_E,m_E⟩:=p_E.up (k':=13) (by lia)
 exact mkD u_N sc_N rfl rfl fun _ _ _ _ _ _ _ hr hu nd=>(z0d (z1c 3 (PF.ro (y4h (z0p (PF.ro (y4h (z0p (PD.ro z0m) (z0p (PD.ro (z1d y0q B.bm (by decide +kernel) (z0a (z0b 0) z0c))) z1i)))) (z0p (PF.ro (z5r (z1z (z0a z0m z0c)) (y4i (z0b 1) B.bg (by decide +kernel)))) (z0p (PF.ro (z5r (z1z (z0a z0m z0c)) (z4n F_E hr m_E (z0a (z0b 1) (z0a (z0b 2) z0c))))) z1i))))) nd)
  (z0f (z0w (z8v (PF.pd (z4m (PIx.pic (z7g (z1m 3))) (z6t (fun _ _ _ _ _=>(PD.ro (z8v (z0b 0))))) nd rfl))))))
theorem w0g{E:Ev}{a:Addr}{d:FuncData}(B:Bi E)(U:Fun E.K "law" "law" x5b a d)(hb:z6h E.K d ["script"] [])(p_z:h_z E)(p_m:h_m E)(p_i:h_i E)(p_p:h_p E)(p_t:h_t E)(p_A:h_A E)(p_O:h_O E)(p_N:h_N E):FnD E.P E.w E.K E.mg E.base 19 a d ["script"] c_law:=by
 obtain⟨_,_,F_z,m_z⟩:=p_z.up (k':=18) (by lia)
 obtain⟨_,_,F_m,m_m⟩:=p_m.up (k':=18) (by lia)
 obtain⟨_,_,F_i,m_i⟩:=p_i.up (k':=18) (by lia)
 obtain⟨_,_,F_p,m_p⟩:=p_p.up (k':=18) (by lia)
 obtain⟨_,_,F_t,m_t⟩:=p_t.up (k':=18) (by lia)
 obtain⟨_,_,F_A,m_A⟩:=p_A.up (k':=18) (by lia)
 obtain⟨_,_,F_O,m_O⟩:=p_O.up (k':=18) (by lia)
 obtain⟨_,_,F_N,m_N⟩:=p_N.up (k':=18) (by lia)
 refine z9j U x3q hb (fun ds h=>z2u h) fun cdv A outer s H E hr=>?_
 have nd:=x3q.nd
 have hu:=hr.units
 exact⟨x6t,(z0d (z1c 1 (PD.ro (z0n F_t hr m_t (z0a (z0n F_z hr m_z (z0a (z0b 0) (z0a z0e z0c))) z0c))) nd)
  (z0d (z1c 2 (PD.ro (z0o z1w z0e (z0o z2f (z0n F_z hr m_z (z0a (z0b 0) (z0a z0e z0c))) z0e))) nd)
  (z0d (z1c 3 (PD.ro (z0n F_i hr m_i (z0a (z0n F_z hr m_z (z0a (z0b 0) (z0a z0e z0c))) (z0a (z0n F_z hr m_z (z0a (z0b 0) (z0a z0e z0c))) (z0a (z0b 2) z0c))))) nd)
  (z0d (z1c 4 (PD.ro (z0n F_m hr m_m (z0a (y4j (z0b 0) (podS z0e) (podS z0e)) (z0a (z0b 1) (z0a (z0b 2) (z0a z0e z0c)))))) nd)
  (z0d (z1c 5 (PD.ro (z0n F_A hr m_A (z0a (z0b 1) (z0a (z0b 3) (z0a (z0b 4) z0c))))) nd)
  (z0d (z7q 6 z3s rfl (z7g (PF.ro (y4h (z0p (z1m 3) (z0p (PF.ro (y4i (z0b 3) B.bg (by decide +kernel))) z1i)))))
  (z0d (z1c 7 (PD.ro (z0n F_N hr m_N (z0a (z0b 1) (z0a (z0b 6) (z0a (z0b 4) z0c))))) nd)
  (z0f (z2s (PWD.pt (y5q (z4l (z4a (z8w z5x (z0b 7) B.be (fun I q=>z2t I rfl B.bm (by decide +kernel) q) x8o))) (y3x (z0r (y1e hu) (z0b 7) (z0b 5) (z0u _))))) (z0f (z0w x9n)) z0x))) nd)
  (z0d (z1c 7 (PD.ro (z0n F_O hr m_O (z0a (z0b 5) z0c))) nd)
  (z0f (z0w (z6s (z0n F_p hr m_p (z0a (z0b 7) z0c)) (z7s (z6q (z6b hu) (z0b 7) (z5s (z0a (z0b 1) (z0a (z0b 3) (z0a (z0b 4) z0c)))) (z0u _))))))))))))),fun ds hne=>(z7v (z2u hne)).symm⟩
end
theorem z6d{α:Type}{p:List α->Prop}(h:∀a,p [a])(us:List α)(hl:us.length=1):p us:=by
 obtain⟨a,rfl⟩:∃a,us=[a]:=by
  match us,hl with
  | [a],_=>exact⟨a,rfl⟩
 exact h a
theorem z9y{α:Type}{p:List α->Prop}(h:∀a b,p [a,b])(us:List α)(hl:us.length=2):p us:=by
 obtain⟨a,b,rfl⟩:∃a b,us=[a,b]:=by
  match us,hl with
  | [a,b],_=>exact⟨a,b,rfl⟩
 exact h a b
theorem y1f{α:Type}{p:List α->Prop}(h:∀a b c,p [a,b,c])(us:List α)(hl:us.length=3):p us:=by
 obtain⟨a,b,c,rfl⟩:∃a b c,us=[a,b,c]:=by
  match us,hl with
  | [a,b,c],_=>exact⟨a,b,c,rfl⟩
 exact h a b c
theorem y2k{α:Type}{p:List α->Prop}(h:∀a b c d,p [a,b,c,d])(us:List α)(hl:us.length=4):p us:=by
 obtain⟨a,b,c,d,rfl⟩:∃a b c d,us=[a,b,c,d]:=by
  match us,hl with
  | [a,b,c,d],_=>exact⟨a,b,c,d,rfl⟩
 exact h a b c d
theorem x9y{α:Type}{p:List α->Prop}(h:∀a b c d e,p [a,b,c,d,e])(us:List α)(hl:us.length=5):p us:=by
 obtain⟨a,b,c,d,e,rfl⟩:∃a b c d e,us=[a,b,c,d,e]:=by
  match us,hl with
  | [a,b,c,d,e],_=>exact⟨a,b,c,d,e,rfl⟩
 exact h a b c d e
section
variable {w:World}{h:Heap}{mg:Str->Option Value}(X:(KK w.params).In h)(G:h.Ns mainGlobals mg)
include X G in
theorem ma{x:Str}{v:Value}(e:PySem.W.nsIn (KK w.params) mainGlobals x=some (some v)):mg x=some v:=PySem.W.mg_of X G e
include X G in
theorem mn{x:Str}(e:PySem.W.nsIn (KK w.params) mainGlobals x=some none):mg x=none:=PySem.W.mg_none_of X G e
include X G in
theorem ow(base:Heap){x:Str}{st:Stmt}{ps:List Str}{c:Addr}{pm:Value}(a:Addr)(n:PySem.W.nsIn (KK w.params) mainGlobals x=some (some (.ref a)))(l:(KK w.params).lookup a=some (HQ.fO x st pm (.ref c)))(e:PySem.W.codeIn (KK w.params) (.ref c) x=true)(b:∀(kV doc pm:Value) (an:Option Addr) (cdv ct:Value) (us:List Value),us.length=ps.length->bindArgs (PySem.W.fnOf x x (z9m st) (z3i st) (z0g st) .none kV doc pm an cdv ct) ⟨us,[]⟩=pure (ps.zip us)):Own ⟨PySem.Challenge.rw_longrounds_k81_texts_there_and_back.prog,w,(KK w.params),mg,base⟩ x st ps:=⟨a,_,HQ.fun_at l e,(HQ.fun_at l e).binds b,PySem.W.mg_of X G n⟩
include X G in
set_option maxHeartbeats 0 in
theorem all{fa:Addr}(hfa:mg "law"=some (.ref fa)):∃fd:FuncData,(∀(s:Shared) (v:Value),BindsTo s fd ⟨[v],[]⟩ [("script",v)])/\∀base:Heap,(KK w.params).In base->base.Ns mainGlobals mg->FnOk PySem.Challenge.rw_longrounds_k81_texts_there_and_back.prog w (KK w.params) mg base (CXE PySem.Challenge.rw_longrounds_k81_texts_there_and_back.prog w) 19 fa fd ["script"] (spN c_law (KK w.params)):=by
 k_fill
 have a1_NoPrime:PySem.W.nsIn (KK w.params) mainGlobals "NoPrime"=some (some (.ref 37)):=by k_is
 have m_NoPrime:=PySem.W.mg_of X G a1_NoPrime
 have cl_NoPrime:XCls (KK w.params) 37:=⟨by k_is,by k_is,by k_is,by k_is,by k_is,by k_is,iss (by k_is)⟩
 have a1_NoProgram:PySem.W.nsIn (KK w.params) mainGlobals "NoProgram"=some (some (.ref 49)):=by k_is
 have m_NoProgram:=PySem.W.mg_of X G a1_NoProgram
 have cl_NoProgram:XCls (KK w.params) 49:=⟨by k_is,by k_is,by k_is,by k_is,by k_is,by k_is,iss (by k_is)⟩
 have a1_NoText:PySem.W.nsIn (KK w.params) mainGlobals "NoText"=some (some (.ref 61)):=by k_is
 have m_NoText:=PySem.W.mg_of X G a1_NoText
 have cl_NoText:XCls (KK w.params) 61:=⟨by k_is,by k_is,by k_is,by k_is,by k_is,by k_is,iss (by k_is)⟩
 have a1_LongError:PySem.W.nsIn (KK w.params) mainGlobals "LongError"=some (some (.ref 24)):=by k_is
 have m_LongError:=PySem.W.mg_of X G a1_LongError
 have cl_LongError:XCls (KK w.params) 24:=⟨by k_is,by k_is,by k_is,by k_is,by k_is,by k_is,iss (by k_is)⟩
 have X_NoPrime:XOk (KK w.params) mg .noPrime 37:=⟨a1_NoPrime,m_NoPrime,by k_exc⟩
 have X_NoProgram:XOk (KK w.params) mg .noProgram 49:=⟨a1_NoProgram,m_NoProgram,by k_exc⟩
 have X_NoText:XOk (KK w.params) mg .noText 61:=⟨a1_NoText,m_NoText,by k_exc⟩
 have zg_NoNumber:PySem.W.nsIn (KK w.params) mainGlobals "NoNumber"=some none:=by k_is
 have zg_TooLong:PySem.W.nsIn (KK w.params) mainGlobals "TooLong"=some none:=by k_is
 have zg_Lossy:PySem.W.nsIn (KK w.params) mainGlobals "Lossy"=some none:=by k_is
 have lL:(KK w.params).lookup 342=some (HQ.fO "law" x5b (.str "law_longrounds_k81_texts_there_and_back" 534) (.ref 341)):=by k_is
 have lC:PySem.W.codeIn (KK w.params) (.ref 341) "law"=true:=by k_is
 have m_law:=ma X G (x:="law") (v:=.ref 342) (by k_is)
 have e:=hfa.symm.trans m_law
 cases e
 have UL:=HQ.fun_at lL lC
 refine lawD UL (fun s v=>.of_eq rfl) fun base _ _=>?_
 have B:Bi ⟨PySem.Challenge.rw_longrounds_k81_texts_there_and_back.prog,w,(KK w.params),mg,base⟩:=⟨mn X G (by k_is),mn X G (by k_is),mn X G (by k_is),mn X G (by k_is),mn X G (by k_is),mn X G (by k_is),mn X G (by k_is),mn X G (by k_is),mn X G (by k_is),mn X G (by k_is),mn X G (by k_is),mn X G (by k_is),mn X G (by k_is),mn X G (by k_is),ma X G (by k_is),ma X G (by k_is),ma X G (by k_is),ma X G (by k_is),ma X G (by k_is),ma X G (by k_is),ma X G (by k_is),ma X G (by k_is),ma X G (by k_is),m_NoPrime,m_NoProgram,m_NoText,m_LongError,X_NoPrime,X_NoProgram,X_NoText⟩
 have o__law_cell:=ow X G base (x:="_law_cell") (st:=s_z) (ps:=["script","k"]) 271 (by k_is) (by k_is) (by k_is) fun _ _ _ _ _ _=>z9y fun _ _=>rfl
 have p_z:=f_z B o__law_cell
 have o__law_count:=ow X G base (x:="_law_count") (st:=s_k) (ps:=["cell"]) 297 (by k_is) (by k_is) (by k_is) fun _ _ _ _ _ _=>z6d fun _=>rfl
 have p_k:=f_k o__law_count
 have o__law_digits:=ow X G base (x:="_law_digits") (st:=s_g) (ps:=["cell","P","size"]) 283 (by k_is) (by k_is) (by k_is) fun _ _ _ _ _ _=>y1f fun _ _ _=>rfl
 have p_g:=f_g B o__law_digits
 have o__law_set:=ow X G base (x:="_law_set") (st:=s_F) (ps:=["cell","more","P","many"]) 304 (by k_is) (by k_is) (by k_is) fun _ _ _ _ _ _=>y2k fun _ _ _ _=>rfl
 have p_F:=f_F o__law_set p_g
 have o__law_items:=ow X G base (x:="_law_items") (st:=s_m) (ps:=["cells","P","many","agains"]) 311 (by k_is) (by k_is) (by k_is) fun _ _ _ _ _ _=>y2k fun _ _ _ _=>rfl
 have p_m:=f_m B o__law_items p_k p_F
 have o__law_names:=ow X G base (x:="_law_names") (st:=s_i) (ps:=["cell","more","many"]) 318 (by k_is) (by k_is) (by k_is) fun _ _ _ _ _ _=>y1f fun _ _ _=>rfl
 have p_i:=f_i B o__law_names
 have o__law_whole:=ow X G base (x:="_law_whole") (st:=s_n) (ps:=["found"]) 290 (by k_is) (by k_is) (by k_is) fun _ _ _ _ _ _=>z6d fun _=>rfl
 have p_n:=f_n B o__law_whole
 have o__law_plain:=ow X G base (x:="_law_plain") (st:=s_p) (ps:=["thing"]) 335 (by k_is) (by k_is) (by k_is) fun _ _ _ _ _ _=>z6d fun _=>rfl
 have A_p:=f_p B o__law_plain p_n
 have p_p:=(A_p 12)
 have o__law_prime:=ow X G base (x:="_law_prime") (st:=s_t) (ps:=["cell"]) 276 (by k_is) (by k_is) (by k_is) fun _ _ _ _ _ _=>z6d fun _=>rfl
 have p_t:=f_t B o__law_prime
 have o__law_words:=ow X G base (x:="_law_words") (st:=s_o) (ps:=["names","items"]) 323 (by k_is) (by k_is) (by k_is) fun _ _ _ _ _ _=>z9y fun _ _=>rfl
 have A_o:=f_o B o__law_words
 have p_o:=(A_o 12)
 have o__law_text:=ow X G base (x:="_law_text") (st:=s_A) (ps:=["P","names","items"]) 330 (by k_is) (by k_is) (by k_is) fun _ _ _ _ _ _=>y1f fun _ _ _=>rfl
 have p_A:=f_A B o__law_text p_o
 have o_is_made_of:=ow X G base (x:="is_made_of") (st:=s_u) (ps:=["word","signs","most"]) 172 (by k_is) (by k_is) (by k_is) fun _ _ _ _ _ _=>y1f fun _ _ _=>rfl
 have p_u:=f_u B o_is_made_of
 have o_number_from:=ow X G base (x:="number_from") (st:=s_f) (ps:=["word"]) 179 (by k_is) (by k_is) (by k_is) fun _ _ _ _ _ _=>z6d fun _=>rfl
 have p_f:=f_f B o_number_from p_u
 have o_taken:=ow X G base (x:="taken") (st:=s_L) (ps:=["words","count"]) 191 (by k_is) (by k_is) (by k_is) fun _ _ _ _ _ _=>z9y fun _ _=>rfl
 have p_L:=f_L B o_taken
 have o_take_sign:=ow X G base (x:="take_sign") (st:=s_x) (ps:=["words","sign"]) 198 (by k_is) (by k_is) (by k_is) fun _ _ _ _ _ _=>z9y fun _ _=>rfl
 have p_x:=f_x o_take_sign p_L
 have o_number_on_wheel:=ow X G base (x:="number_on_wheel") (st:=s_a) (ps:=["P","word"]) 186 (by k_is) (by k_is) (by k_is) fun _ _ _ _ _ _=>z9y fun _ _=>rfl
 have p_a:=f_a B o_number_on_wheel p_f
 have o_set_from:=ow X G base (x:="set_from") (st:=s_D) (ps:=["P","names","words"]) 203 (by k_is) (by k_is) (by k_is) fun _ _ _ _ _ _=>y1f fun _ _ _=>rfl
 have p_D:=f_D B o_set_from p_a p_L
 have o_again_from:=ow X G base (x:="again_from") (st:=s_v) (ps:=["P","names","words","around"]) 210 (by k_is) (by k_is) (by k_is) fun _ _ _ _ _ _=>y2k fun _ _ _ _=>rfl
 have o_item_from:=ow X G base (x:="item_from") (st:=s_y) (ps:=["P","names","words","around"]) 217 (by k_is) (by k_is) (by k_is) fun _ _ _ _ _ _=>y2k fun _ _ _ _=>rfl
 have o_items_from:=ow X G base (x:="items_from") (st:=s_h) (ps:=["P","names","words","around"]) 224 (by k_is) (by k_is) (by k_is) fun _ _ _ _ _ _=>y2k fun _ _ _ _=>rfl
 have A_v:=f_v B o_again_from o_item_from o_items_from p_f p_x p_L p_D
 have p_v:=(A_v 12).1
 have p_y:=(A_v 12).2.1
 have p_h:=(A_v 12).2.2
 have o_is_whole:=ow X G base (x:="is_whole") (st:=s_B) (ps:=["thing"]) 70 (by k_is) (by k_is) (by k_is) fun _ _ _ _ _ _=>z6d fun _=>rfl
 have p_B:=f_B B o_is_whole
 have o_is_from:=ow X G base (x:="is_from") (st:=s_J) (ps:=["thing","least","most"]) 84 (by k_is) (by k_is) (by k_is) fun _ _ _ _ _ _=>y1f fun _ _ _=>rfl
 have p_J:=f_J o_is_from p_B
 have o_items_counted:=ow X G base (x:="items_counted") (st:=s_b) (ps:=["items","ahead"]) 112 (by k_is) (by k_is) (by k_is) fun _ _ _ _ _ _=>z9y fun _ _=>rfl
 have A_b:=f_b B o_items_counted
 have p_b:=(A_b 12)
 have o_on:=ow X G base (x:="on") (st:=s_on) (ps:=["P","n"]) 105 (by k_is) (by k_is) (by k_is) fun _ _ _ _ _ _=>z9y fun _ _=>rfl
 have p_on:=f_on o_on
 have o_made_set:=ow X G base (x:="made_set") (st:=s_C) (ps:=["P","many","x","form"]) 117 (by k_is) (by k_is) (by k_is) fun _ _ _ _ _ _=>y2k fun _ _ _ _=>rfl
 have p_C:=f_C B o_made_set p_J p_on
 have o_made_again:=ow X G base (x:="made_again") (st:=s_j) (ps:=["P","many","n","items","around"]) 124 (by k_is) (by k_is) (by k_is) fun _ _ _ _ _ _=>x9y fun _ _ _ _ _=>rfl
 have o_made_item:=ow X G base (x:="made_item") (st:=s_w) (ps:=["P","many","item","around"]) 131 (by k_is) (by k_is) (by k_is) fun _ _ _ _ _ _=>y2k fun _ _ _ _=>rfl
 have o_made_items:=ow X G base (x:="made_items") (st:=s_q) (ps:=["P","many","items","around"]) 136 (by k_is) (by k_is) (by k_is) fun _ _ _ _ _ _=>y2k fun _ _ _ _=>rfl
 have A_j:=f_j B o_made_again o_made_item o_made_items p_J p_C
 have p_j:=(A_j 12).1
 have p_w:=(A_j 12).2.1
 have p_q:=(A_j 12).2.2
 have o_least_divisor:=ow X G base (x:="least_divisor") (st:=s_d) (ps:=["n"]) 77 (by k_is) (by k_is) (by k_is) fun _ _ _ _ _ _=>z6d fun _=>rfl
 have p_d:=f_d o_least_divisor
 have o_is_prime:=ow X G base (x:="is_prime") (st:=s_G) (ps:=["thing"]) 91 (by k_is) (by k_is) (by k_is) fun _ _ _ _ _ _=>z6d fun _=>rfl
 have p_G:=f_G B o_is_prime p_J p_d
 have o_prime:=ow X G base (x:="prime") (st:=s_M) (ps:=["thing"]) 98 (by k_is) (by k_is) (by k_is) fun _ _ _ _ _ _=>z6d fun _=>rfl
 have p_M:=f_M B o_prime p_G
 have o_program:=ow X G base (x:="program") (st:=s_H) (ps:=["P","many","items"]) 143 (by k_is) (by k_is) (by k_is) fun _ _ _ _ _ _=>y1f fun _ _ _=>rfl
 have p_H:=f_H B o_program p_J p_b p_q p_M
 have o_read_items:=ow X G base (x:="read_items") (st:=s_s) (ps:=["P","names","words"]) 257 (by k_is) (by k_is) (by k_is) fun _ _ _ _ _ _=>y1f fun _ _ _=>rfl
 have p_s:=f_s B o_read_items p_h p_H
 have o_is_name:=ow X G base (x:="is_name") (st:=s_K) (ps:=["word"]) 245 (by k_is) (by k_is) (by k_is) fun _ _ _ _ _ _=>z6d fun _=>rfl
 have p_K:=f_K B o_is_name p_u
 have o_read_names:=ow X G base (x:="read_names") (st:=s_r) (ps:=["words"]) 250 (by k_is) (by k_is) (by k_is) fun _ _ _ _ _ _=>z6d fun _=>rfl
 have p_r:=f_r B o_read_names p_K
 have o_read_prime:=ow X G base (x:="read_prime") (st:=s_l) (ps:=["words"]) 238 (by k_is) (by k_is) (by k_is) fun _ _ _ _ _ _=>z6d fun _=>rfl
 have p_l:=f_l B o_read_prime p_G p_f
 have o_words_behind:=ow X G base (x:="words_behind") (st:=s_e) (ps:=["row","first"]) 231 (by k_is) (by k_is) (by k_is) fun _ _ _ _ _ _=>z9y fun _ _=>rfl
 have p_e:=f_e B o_words_behind
 have o_read:=ow X G base (x:="read") (st:=s_O) (ps:=["text"]) 264 (by k_is) (by k_is) (by k_is) fun _ _ _ _ _ _=>z6d fun _=>rfl
 have p_O:=f_O B o_read p_s p_r p_l p_e
 have o_written:=ow X G base (x:="written") (st:=s_I) (ps:=["numbers"]) 148 (by k_is) (by k_is) (by k_is) fun _ _ _ _ _ _=>z6d fun _=>rfl
 have p_I:=f_I B o_written
 have o_words_of:=ow X G base (x:="words_of") (st:=s_E) (ps:=["names","items"]) 162 (by k_is) (by k_is) (by k_is) fun _ _ _ _ _ _=>z9y fun _ _=>rfl
 have o_words_of_item:=ow X G base (x:="words_of_item") (st:=s_c) (ps:=["names","item"]) 155 (by k_is) (by k_is) (by k_is) fun _ _ _ _ _ _=>z9y fun _ _=>rfl
 have A_E:=f_E B o_words_of o_words_of_item p_I
 have p_E:=(A_E 12).1
 have p_c:=(A_E 12).2
 have o_show:=ow X G base (x:="show") (st:=s_N) (ps:=["P","names","items"]) 167 (by k_is) (by k_is) (by k_is) fun _ _ _ _ _ _=>y1f fun _ _ _=>rfl
 have p_N:=f_N B o_show p_E
 exact w0g (E:=⟨PySem.Challenge.rw_longrounds_k81_texts_there_and_back.prog,w,(KK w.params),mg,base⟩) B UL (UL.binds fun _ _ _ _ _ _=>z6d fun _=>rfl) p_z p_m p_i p_p p_t p_A p_O p_N
end
end Row
open PySem PySem.W PyProof.Rows
set_option maxRecDepth 100000 in
set_option maxHeartbeats 0 in
theorem PySem.Challenge.cw_longrounds_k81_texts_there_and_back_holds : PySem.Challenge.rw_longrounds_k81_texts_there_and_back.Holds := by
 w_on;o_law
 refine PySem.W.holds_open (q:=PySem.W.view PySem.Challenge.pw_longrounds_k81_texts_there_and_back [60]) (loose:=HQ.looseOf PySem.Challenge.pw_longrounds_k81_texts_there_and_back) (Xt:=fun s=>PySem.W.xlAt (PySem.W.view PySem.Challenge.pw_longrounds_k81_texts_there_and_back [60]) [] s&&PySem.W.recOk [] s) (XP:=PySem.W.XL (PySem.W.view PySem.Challenge.pw_longrounds_k81_texts_there_and_back [60]) []) (Yf:=fun s=>Row.ks.map s.heap.get?) (Ya:=fun w=>(Row.KK w.params).map fun p:Addr×Obj=>some p.2) (YP:=PySem.W.InK Row.KK) (N:=40000) ?hl (PySem.W.InK.of (K:=Row.KK) (as:=Row.ks) fun _=>rfl) PySem.W.InK.keeps (fun s e=>PySem.W.xl_of s (Bool.and_eq_true_iff.mp e).1) PySem.W.XL.keeps (by rfl) (by rfl) (by rfl) (fun s e=>PySem.W.recFacts_of (Bool.and_eq_true_iff.mp e).2) (by rfl) (by assumption) (by decide +kernel) ⟨rfl,rfl,rfl,rfl,rfl,by decide +kernel⟩ ?hw ?hc
 case hl =>
  refine HQ.left_q (by kernel_rfl) (by kernel_rfl) (fun s=>by kernel_rfl) ?_
  intro w os
  delta Row.KK Row.top
  rw[PySem.W.Fast.te9004990752496709420]
  kernel_rfl
 case hw=>w_witness2
 exact L3.walk_ofL (sp:=L3.spN L3.c_law) (l:=PySem.Challenge.rw_longrounds_k81_texts_there_and_back) (n:=63) (k:=19) (x:="script") (CX:=fun w=>L3.CXE PySem.Challenge.rw_longrounds_k81_texts_there_and_back.prog w) rfl (by decide) rfl ⟨rfl,by decide,by decide⟩ (K:=Row.KK) (fun w h Y=>Y) (fun w mg fa h KX G hmg=>Row.all KX G hmg) (fun K H a ns hl hS=>L3.law_true L3.law_k81 hl hS) fun w H s e s' h=>L3.cxe_false h


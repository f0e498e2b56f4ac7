import PyProof.Rows.All
import Wide.All
import OpenK.AllK
import Wide.FinOn
import Lean
import PyProof.EqAt
import PyProof.EqKinds
import PyProof.TupleCall
import PySem.Challenge.RW_longrounds_k61_primes_of_numbers
set_option Elab.async false
set_option linter.all false
set_option maxRecDepth 100000
set_option maxHeartbeats 4000000
noncomputable section
namespace L2
open PySem PySem.Spec PyProof.Rows
noncomputable abbrev Key := Sum Int Str
noncomputable def y1o : Key -> Value -> Bool
  | .inl k, v => Value.isInt k v
  | .inr x, v => Value.isStrOf x v
noncomputable def keyH (w : World) : Key -> Int
  | .inl k => hashInt k
  | .inr x => hashStr w x
theorem z0f : ∀ {k : Key} {v : Value}, y1o k v = true -> (∃ i t, k = Sum.inl i /\ v = Value.int i t) ∨ (∃ x t, k = Sum.inr x /\ v = Value.str x t)
  | .inl i, v, h => by
    obtain ⟨t, e⟩ := Value.isInt_shape (k := i) (v := v) h
    exact .inl ⟨i, t, rfl, e⟩
  | .inr x, v, h => by
    obtain ⟨t, e⟩ := Value.isStrOf_shape (x := x) (v := v) h
    exact .inr ⟨x, t, rfl, e⟩
theorem y1n (a b : Int) : decide ((Sum.inl a : Key) = Sum.inl b) = (a == b) := by
  by_cases e : a = b
  · subst e; simp
  · have h : ¬ (Sum.inl a : Key) = Sum.inl b := fun q => e (Sum.inl.inj q)
    rw [decide_eq_false h]
    exact (beq_eq_false_iff_ne.mpr e).symm
theorem y1k (a b : Str) : decide ((Sum.inr a : Key) = Sum.inr b) = decide (a = b) := by
  by_cases e : a = b
  · subst e; simp
  · have h : ¬ (Sum.inr a : Key) = Sum.inr b := fun q => e (Sum.inr.inj q)
    rw [decide_eq_false h, decide_eq_false e]
theorem y1m (a : Int) (b : Str) : decide ((Sum.inl a : Key) = Sum.inr b) = false := decide_eq_false (fun q => nomatch q)
theorem y1l (a : Str) (b : Int) : decide ((Sum.inr a : Key) = Sum.inl b) = false := decide_eq_false (fun q => nomatch q)
noncomputable def z6i (prog : Program) (w : World) : PySem.KeyKind prog w Key where
  is := y1o
  hash := keyH w
  inj := fun v a b ha hb => by
    rcases z0f ha with ⟨i, t, rfl, rfl⟩ | ⟨x, t, rfl, rfl⟩
    · rcases z0f hb with ⟨j, u, rfl, e⟩ | ⟨y, u, rfl, e⟩
      · injection e with e1 _; rw [e1]
      · exact nomatch e
    · rcases z0f hb with ⟨j, u, rfl, e⟩ | ⟨y, u, rfl, e⟩
      · exact nomatch e
      · injection e with e1 _; rw [e1]
  byValue := fun k v h => by
    rcases z0f h with ⟨i, t, rfl, rfl⟩ | ⟨x, t, rfl, rfl⟩ <;> rfl
  pyHash := fun hv h => by
    rcases z0f hv with ⟨i, t, rfl, rfl⟩ | ⟨x, t, rfl, rfl⟩
    · exact wpAny_pyHash_int h
    · exact wpAny_pyHash_str h
  eqBool := fun hu hv h => by
    rcases z0f hu with ⟨i, t, rfl, rfl⟩ | ⟨x, t, rfl, rfl⟩
    · rcases z0f hv with ⟨j, u, rfl, rfl⟩ | ⟨y, u, rfl, rfl⟩
      · rw [y1n] at h; exact wpAny_eqBool_int h
      · rw [y1m] at h; exact SeqAt.EqAt.int_str i t y u _ _ _ _ h
    · rcases z0f hv with ⟨j, u, rfl, rfl⟩ | ⟨y, u, rfl, rfl⟩
      · rw [y1l] at h; exact SeqAt.EqAt.str_int x t j u _ _ _ _ h
      · rw [y1k] at h; exact wpAny_eqBool_str h
  «strs» := fun k x t v h => by
    rcases z0f h with ⟨i, u, rfl, e⟩ | ⟨y, u, rfl, e⟩
    · exact nomatch e
    · injection e with e1 _
      subst e1
      cases v <;> rfl
end L2
namespace L2
open PySem PySem.Spec PyProof.Rows
inductive V where
  | non | bl (b : Bool) | int (i : Int) | str (x : Str) | byt (b : Array UInt8) | flt (b : UInt64) | ref (a : Addr) | ty (n : String)
  deriving DecidableEq
noncomputable def RelV : V -> Value -> Prop
  | .non, u => u = Value.none
  | .bl b, u => u = Value.bool b
  | .int i, u => ∃ t, u = Value.int i t
  | .str x, u => ∃ t, u = Value.str x t
  | .byt b, u => ∃ t, u = Value.bytes b t
  | .flt b, u => ∃ t, u = Value.float b t
  | .ref a, u => u = Value.ref a
  | .ty n, u => u = Value.type n
noncomputable abbrev Vals : List V -> List Value -> Prop := Paired RelV
theorem Vals.length {xs : List V} {us : List Value} (r : Vals xs us) : xs.length = us.length := Paired.length r
theorem Vals.get : ∀ {xs : List V} {us : List Value} {i : Nat} {x : V}, Vals xs us -> xs[i]? = some x -> ∃ u, us[i]? = some u /\ RelV x u
  | _, _, _, _, .nil, e => by simp at e
  | _, _, 0, _, .cons r _, e => by simp at e; subst e; exact ⟨_, rfl, r⟩
  | _, _, i + 1, x, .cons _ t, e => by
    obtain ⟨u, h1, h2⟩ := Vals.get (i := i) (x := x) t (by simpa using e)
    exact ⟨u, by simpa using h1, h2⟩
theorem Vals.set {x : V} {u : Value} (r : RelV x u) : ∀ {xs : List V} {us : List Value} (i : Nat), Vals xs us -> Vals (xs.set i x) (us.set i u)
  | _, _, _, .nil => .nil
  | _, _, 0, .cons _ t => .cons r t
  | _, _, i + 1, .cons q t => .cons q (Vals.set r i t)
theorem Vals.append : ∀ {xs ys : List V} {us ws : List Value}, Vals xs us -> Vals ys ws -> Vals (xs ++ ys) (us ++ ws)
  | _, _, _, _, .nil, s => s
  | _, _, _, _, .cons r t, s => .cons r (Vals.append t s)
theorem Vals.take : ∀ {xs : List V} {us : List Value} (n : Nat), Vals xs us -> Vals (xs.take n) (us.take n)
  | _, _, 0, _ => .nil
  | _, _, _ + 1, .nil => .nil
  | _, _, n + 1, .cons r t => .cons r (Vals.take n t)
theorem Vals.drop : ∀ {xs : List V} {us : List Value} (n : Nat), Vals xs us -> Vals (xs.drop n) (us.drop n)
  | _, _, 0, r => r
  | _, _, _ + 1, .nil => .nil
  | _, _, n + 1, .cons _ t => Vals.drop n t
noncomputable def RelO : Option V -> Option Value -> Prop
  | some v, some u => RelV v u
  | none, none => True
  | _, _ => False
noncomputable def KV {κ : Type} : List (κ × V) -> List (κ × Value) -> Prop := Paired fun (p : κ × V) (q : κ × Value) => p.1 = q.1 /\ RelV p.2 q.2
noncomputable def kV : Key -> V
  | .inl i => .int i
  | .inr x => .str x
inductive HO where
    | lst (xs : List V)
    | tup (xs : List V)
    | dK (kvs : List (Key × V)) | dT (kvs : List (List Key × V))
    | set (S : Int -> Bool) (n : Nat)
    | ins (C dx : Addr) (fs : List (Str × V))
    | own (x : Addr)
    | xd (fs : List (Str × V))
    | met (f x : Addr)
    | rng (lo hi : Int)
    | frz (o : Obj) (u : HO)
    | tbl (ps : Array Value)
    | ext (φ : Heap -> Prop)
noncomputable abbrev Hp := Addr -> Option HO
noncomputable def upd (H : Hp) (a : Addr) (o : HO) : Hp := fun b => if b = a then some o else H b
theorem z0p {H : Hp} {a : Addr} {o : HO} : upd H a o a = some o := by unfold upd; rw [if_pos rfl]
theorem z0k {H : Hp} {a b : Addr} {o : HO} (h : b ≠ a) : upd H a o b = H b := by unfold upd; rw [if_neg h]
theorem z0r {H : Hp} {a b : Addr} {o : HO} (h : H a = some o) (h' : H b = none) : a ≠ b := by
  intro e; subst e; rw [h] at h'; cases h'
section
variable (P : Program) (w : World)
noncomputable def z1u (H : Hp) (h : Heap) (a : Addr) : HO -> Prop
  | .lst xs => xs.length <= sizeLine /\ ∃ (its : List Value) (n : Nat), Vals xs its /\ h.get? a = some { cls := .type "list", data := .seq its.toArray n }
  | .tup xs => xs.length <= sizeLine /\ ∃ its : List Value, Vals xs its /\ IsTup h a its.toArray
  | .dK kvs => kvs.length <= sizeLine /\ (a == sysModules) = false /\ ∃ vs, KV kvs vs /\ h.DictOf (z6i P w) a vs
  | .dT kvs => kvs.length <= sizeLine /\ (a == sysModules) = false /\ ∃ xs : List (List Key × Addr × Value),
      Paired (fun (p : List Key × V) (q : List Key × Addr × Value) => p.1 = q.1 /\ H q.2.1 = some (.tup (p.1.map kV)) /\ RelV p.2 q.2.2) kvs xs /\
      ∃ o es ep, h.get? a = some o /\ o.ExactDict /\ o.data = .dict es ep /\ es.toList = xs.map (entryOfKey (tupleKind (z6i P w))) /\ (xs.map (·.1)).Nodup
  | .set S n => h.SetOf (intKind P w) a S n
  | .ins C dx fs => H dx = some (.own a) /\ fs.length <= 1000 /\ dx ≠ a /\ h.get? a = some (PySem.W.instObj C dx) /\
      ∃ mA, h.Ns1 dx mA /\ (∀ f, RelO (fs.lookup f) (mA f)) /\ PySem.Within mA (fs.map (·.1))
  | .own _ => ∃ o, h.get? a = some o
  | .xd fs => ∃ mA, h.Ns1 a mA /\ ∀ f, RelO (fs.lookup f) (mA f)
  | .rng lo hi => ∃ t u v, h.get? a = some { cls := .type "range", data := .fields #[.int lo t, .int hi u, .int 1 v] }
  | .frz o u => h.get? a = some o /\ z1u H h a u
  | .tbl ps => h.get? a = some { cls := .none, data := .fields ps }
  | .met f x => h.get? a = some (PySem.W.methodObj (.ref f) (.ref x))
  | .ext φ => φ h /\ (∃ o, h.get? a = some o) /\ ∀ h1 h2 : Heap, φ h1 -> (∀ o, h1.get? a = some o -> h2.get? a = some o) -> φ h2
noncomputable def HOk (H : Hp) (h : Heap) : Prop := ∀ a o, H a = some o -> z1u P w H h a o
end
section
variable {P : Program} {w : World} {H H' : Hp} {h h' : Heap} {a : Addr} {o : HO}
theorem z1u.lt (x : z1u P w H h a o) : a < h.objs.size := by
  cases o with
  | lst xs => obtain ⟨_, _, _, _, e⟩ := x; exact Heap.lt_size e
  | tup xs => obtain ⟨_, _, _, p⟩ := x; exact p.lt
  | dK kvs => obtain ⟨_, _, _, _, o, _, _, e, _⟩ := x; exact Heap.lt_size e
  | dT kvs => obtain ⟨_, _, _, _, o, _, _, e, _⟩ := x; exact Heap.lt_size e
  | set S n => obtain ⟨o, _, _, _, e, _⟩ := x; exact Heap.lt_size e
  | ins C dx fs => obtain ⟨_, _, _, e, _⟩ := x; exact Heap.lt_size e
  | own y => obtain ⟨_, e⟩ := x; exact Heap.lt_size e
  | xd fs => obtain ⟨_, ⟨_, _, _, e, _⟩, _⟩ := x; exact Heap.lt_size e
  | rng lo hi => obtain ⟨_, _, _, e⟩ := x; exact Heap.lt_size e
  | frz ob u => obtain ⟨e, _⟩ := x; exact Heap.lt_size e
  | tbl ps => exact Heap.lt_size (show h.get? a = some _ from x)
  | met f y => exact Heap.lt_size (show h.get? a = some _ from x)
  | ext φ => obtain ⟨_, ⟨_, e⟩, _⟩ := x; exact Heap.lt_size e
theorem Paired.mapP {α β : Type} {F G : α -> β -> Prop} : ∀ {l₁ : List α} {l₂ : List β}, Paired F l₁ l₂ -> (∀ a b, F a b -> G a b) -> Paired G l₁ l₂
  | _, _, .nil, _ => .nil
  | _, _, .cons r t, f => .cons (f _ _ r) (Paired.mapP t f)
theorem z1u.stay (x : z1u P w H h a o) (k : ∀ b u, (b = a ∨ H b = some (.own a)) -> h.get? b = some u -> h'.get? b = some u)
    (ho : ∀ b, H b = some (.own a) -> H' b = some (.own a)) (ht : ∀ b xs, H b = some (.tup xs) -> H' b = some (.tup xs)) : z1u P w H' h' a o := by
  induction o with
  | lst xs => obtain ⟨z, its, n, r, e⟩ := x; exact ⟨z, its, n, r, k _ _ (.inl rfl) e⟩
  | tup xs => obtain ⟨z, its, r, ob, e, c⟩ := x; exact ⟨z, its, r, ob, k _ _ (.inl rfl) e, c⟩
  | dK kvs => obtain ⟨z, y, vs, r, ob, es, ep, e, c⟩ := x; exact ⟨z, y, vs, r, ob, es, ep, k _ _ (.inl rfl) e, c⟩
  | dT kvs =>
    obtain ⟨z, y, xs, r, ob, es, ep, e, c⟩ := x
    exact ⟨z, y, xs, Paired.mapP r fun p q z => ⟨z.1, ht _ _ z.2.1, z.2.2⟩, ob, es, ep, k _ _ (.inl rfl) e, c⟩
  | set S n => obtain ⟨ob, es, ep, t, e, c⟩ := x; exact ⟨ob, es, ep, t, k _ _ (.inl rfl) e, c⟩
  | ins C dx fs =>
    obtain ⟨d, z, ne, e, mA, ⟨od, es, ep, e2, c⟩, r⟩ := x
    exact ⟨ho _ d, z, ne, k _ _ (.inl rfl) e, mA, ⟨od, es, ep, k _ _ (.inr d) e2, c⟩, r⟩
  | own y => obtain ⟨ob, e⟩ := x; exact ⟨ob, k _ _ (.inl rfl) e⟩
  | xd fs => obtain ⟨mA, ⟨od, es, ep, e, c⟩, r⟩ := x; exact ⟨mA, ⟨od, es, ep, k _ _ (.inl rfl) e, c⟩, r⟩
  | rng lo hi => obtain ⟨t, u, v, e⟩ := x; exact ⟨t, u, v, k _ _ (.inl rfl) e⟩
  | frz ob u ih => obtain ⟨e, q⟩ := x; exact ⟨k _ _ (.inl rfl) e, ih q⟩
  | tbl ps =>
    have e : h.get? a = some { cls := .none, data := .fields ps } := x
    show h'.get? a = some { cls := .none, data := .fields ps }
    exact k a _ (.inl rfl) e
  | met f y =>
    have e : h.get? a = some (PySem.W.methodObj (.ref f) (.ref y)) := x
    show h'.get? a = some (PySem.W.methodObj (.ref f) (.ref y))
    exact k a _ (.inl rfl) e
  | ext φ => obtain ⟨p, ⟨o, e⟩, st⟩ := x; exact ⟨st _ _ p fun o q => k _ _ (.inl rfl) q, ⟨o, k _ _ (.inl rfl) e⟩, st⟩
theorem HOk.lt (x : HOk P w H h) (e : H a = some o) : a < h.objs.size := (x a o e).lt
theorem HOk.fresh (x : HOk P w H h) (e : h.objs.size <= a) : H a = none := by
  cases q : H a with
  | none => rfl
  | some u => exact absurd (Nat.lt_of_lt_of_le (x.lt q) e) (Nat.lt_irrefl _)
theorem HOk.kept (x : HOk P w H h) (k : ∀ b u, h.get? b = some u -> h'.get? b = some u) : HOk P w H h' := fun a o e =>
  (x a o e).stay (fun b u _ q => k b u q) (fun _ q => q) fun _ _ q => q
theorem HOk.laid (x : HOk P w H h) (k : ∀ b u, h.get? b = some u -> h'.get? b = some u) (hp : h.objs.size <= a) (new : z1u P w (upd H a o) h' a o) : HOk P w (upd H a o) h' := fun b u e => by
  have hn := x.fresh hp
  by_cases hb : b = a
  · subst hb; rw [z0p] at e; cases e; exact new
  · rw [z0k hb] at e
    exact (x b u e).stay (fun c v _ q => k c v q) (fun c q => by rw [z0k (z0r q hn)]; exact q) fun c xs q => by rw [z0k (z0r q hn)]; exact q
end
noncomputable def Rd (H : Hp) (a : Addr) (u : HO) : Prop := H a = some u ∨ ∃ o, H a = some (.frz o u)
theorem Rd.of {H : Hp} {a : Addr} {u : HO} (h : H a = some u) : Rd H a u := .inl h
theorem Rd.ok {P : Program} {w : World} {H : Hp} {h : Heap} {a : Addr} {u : HO} (r : Rd H a u) (x : HOk P w H h) : z1u P w H h a u := by
  rcases r with r | ⟨o, r⟩
  · exact x a u r
  · obtain ⟨_, q⟩ := x a _ r
    exact q
noncomputable def Mut : Option HO -> Prop
  | some (.lst _) => True
  | some (.dK _) => True
  | some (.dT _) => True
  | some (.set _ _) => True
  | some (.ins _ _ _) => True
  | some (.ext _) => True
  | _ => False
section
variable {P : Program} {w : World} {H : Hp} {h h' : Heap} {x e : Addr} {o' : HO}
theorem HOk.write (ok : HOk P w H h) (mu : Mut (H x)) (he : e = x ∨ H e = some (.own x)) (k : ∀ b u, b ≠ e -> h.get? b = some u -> h'.get? b = some u) (heo : ∃ u, h'.get? e = some u)
    (new : z1u P w (upd H x o') h' x o') : HOk P w (upd H x o') h' := fun b u q => by
  have nown : ∀ c y, H c = some (.own y) -> c ≠ x := fun c y r z => by subst z; rw [r] at mu; exact mu
  have ntup : ∀ c xs, H c = some (.tup xs) -> c ≠ x := fun c xs r z => by subst z; rw [r] at mu; exact mu
  by_cases hb : b = x
  · subst hb; rw [z0p] at q; cases q; exact new
  · rw [z0k hb] at q
    by_cases hbe : b = e
    · have q' : H b = some (.own x) := by
        rcases he with z | z
        · exact absurd (hbe.trans z) hb
        · rw [hbe]; exact z
      rw [q] at q'; cases q'
      obtain ⟨v, hv⟩ := heo
      exact ⟨v, by rw [hbe]; exact hv⟩
    · refine (ok b u q).stay (fun c v hc r => k c v ?_ r) (fun c r => by rw [z0k (nown c b r)]; exact r) fun c xs r => by rw [z0k (ntup c xs r)]; exact r
      rcases hc with rfl | hc
      · exact hbe
      · rintro rfl
        rcases he with z | z
        · exact nown c b hc z
        · rw [hc] at z; cases z; exact hb rfl
end
structure Un (fs ex : List Addr) (H H' : Hp) (h h' : Heap) : Prop where
  keep : ∀ b o, h.get? b = some o -> H b = none -> b ∉ fs -> b ∉ ex -> h'.get? b = some o
  slot : ∀ b o, h.get? b = some o -> H b = none -> b ∈ fs -> b ∉ ex -> ∃ sl, h'.get? b = some { o with slots := sl }
  free : ∀ b o, h.get? b = some o -> H b = none -> b ∉ ex -> H' b = none
  there : ∀ b o, h.get? b = some o -> b ∉ ex -> ∃ o', h'.get? b = some o'
  tups : ∀ b xs, H b = some (.tup xs) -> H' b = some (.tup xs)
  frzs : ∀ b o u, H b = some (.frz o u) -> H' b = some (.frz o u)
  tbls : ∀ b ps, H b = some (.tbl ps) -> ∃ more, H' b = some (.tbl (ps ++ more))
section
variable {fs fs' ex ex' : List Addr} {H H1 H2 : Hp} {h h1 h2 h' : Heap} {a x e : Addr} {o : HO}
theorem Un.any (u : Un fs ex H H1 h h1) {b : Addr} {ob : Obj} (q : h.get? b = some ob) (n : H b = none) (hx : b ∉ ex) : ∃ sl, h1.get? b = some { ob with slots := sl } := by
  by_cases hb : b ∈ fs
  · exact u.slot b ob q n hb hx
  · exact ⟨ob.slots, u.keep b ob q n hb hx⟩
theorem Un.trans (a : Un fs ex H H1 h h1) (b : Un fs ex H1 H2 h1 h2) : Un fs ex H H2 h h2 where
  keep := fun c ob q n hc hx => b.keep c ob (a.keep c ob q n hc hx) (a.free c ob q n hx) hc hx
  slot := fun c ob q n hc hx => by
    obtain ⟨sl, e1⟩ := a.slot c ob q n hc hx
    obtain ⟨sl', e2⟩ := b.slot c _ e1 (a.free c ob q n hx) hc hx
    exact ⟨sl', e2⟩
  free := fun c ob q n hx => by
    obtain ⟨o', e1⟩ := a.there c ob q hx
    exact b.free c o' e1 (a.free c ob q n hx) hx
  there := fun c ob q hx => by
    obtain ⟨o', e1⟩ := a.there c ob q hx
    exact b.there c o' e1 hx
  tups := fun c xs q => b.tups c xs (a.tups c xs q)
  frzs := fun c ob xs q => b.frzs c ob xs (a.frzs c ob xs q)
  tbls := fun c ps q => by
    obtain ⟨m1, e1⟩ := a.tbls c ps q
    obtain ⟨m2, e2⟩ := b.tbls c _ e1
    exact ⟨m1 ++ m2, by rw [e2, Array.append_assoc]⟩
theorem Un.kept (k : ∀ b u, h.get? b = some u -> h'.get? b = some u) : Un fs ex H H h h' :=
  ⟨fun b ob q _ _ _ => k b ob q, fun b ob q _ _ _ => ⟨ob.slots, k b ob q⟩, fun _ _ _ n _ => n, fun b ob q _ => ⟨ob, k b ob q⟩, fun _ _ q => q, fun _ _ _ q => q, fun _ ps q => ⟨#[], by rw [q]; simp⟩⟩
theorem Un.refl : Un fs ex H H h h := Un.kept fun _ _ q => q
theorem Un.laid (k : ∀ b u, h.get? b = some u -> h'.get? b = some u) (hp : h.objs.size <= a) (hn : H a = none) : Un fs ex H (upd H a o) h h' where
  keep := fun b u q _ _ _ => k b u q
  slot := fun b u q _ _ _ => ⟨u.slots, k b u q⟩
  free := fun b u q n _ => by rw [z0k (Nat.ne_of_lt (Nat.lt_of_lt_of_le (Heap.lt_size q) hp))]; exact n
  there := fun b u q _ => ⟨u, k b u q⟩
  tups := fun b xs q => by rw [z0k (z0r q hn)]; exact q
  frzs := fun b u xs q => by rw [z0k (z0r q hn)]; exact q
  tbls := fun b ps q => ⟨#[], by rw [z0k (z0r q hn), q]; simp⟩
theorem Un.write (mu : Mut (H x)) (he : e = x ∨ H e = some (.own x)) (k : ∀ b u, b ≠ e -> h.get? b = some u -> h'.get? b = some u) (heo : ∃ u, h'.get? e = some u) : Un fs ex H (upd H x o) h h' := by
  have hx : ∀ b, H b = none -> b ≠ x := fun b n z => by subst z; rw [n] at mu; exact mu
  have hb : ∀ b, H b = none -> b ≠ e := fun b n z => by
    subst z
    rcases he with r | r
    · exact hx b n r
    · rw [n] at r; cases r
  have hm : ∀ b u, H b = some u -> ¬ Mut (some u) -> b ≠ x := fun b u q nm z => by subst z; rw [q] at mu; exact nm mu
  refine ⟨fun b u q n _ _ => k b u (hb b n) q, fun b u q n _ _ => ⟨u.slots, k b u (hb b n) q⟩, fun b u q n _ => by rw [z0k (hx b n)]; exact n, fun b u q _ => ?_,
    fun b xs q => by rw [z0k (hm b _ q fun z => z)]; exact q, fun b u xs q => by rw [z0k (hm b _ q fun z => z)]; exact q, fun b ps q => ⟨#[], by rw [z0k (hm b _ q fun z => z), q]; simp⟩⟩
  by_cases hbe : b = e
  · subst hbe; exact heo
  · exact ⟨u, k b u hbe q⟩
theorem Un.mono (u : Un fs ex H H1 h h1) (hs : ∀ b ∈ fs, b ∈ fs') (hx : ∀ b ∈ ex, b ∈ ex') : Un fs' ex' H H1 h h1 :=
  ⟨fun b ob q n hb he => u.keep b ob q n (fun z => hb (hs b z)) fun z => he (hx b z), fun _ _ q n _ he => u.any q n fun z => he (hx _ z), fun b ob q n he => u.free b ob q n fun z => he (hx b z), fun b ob q he => u.there b ob q fun z => he (hx b z), u.tups, u.frzs, u.tbls⟩
end
noncomputable def trk (h : Heap) (H : Hp) : List Addr := (List.range h.objs.size).filter fun a => (H a).isSome
noncomputable def hidT (h : Heap) (H : Hp) : Heap := PySem.W.hideAll h (trk h H)
theorem z6t (h : Heap) (H : Hp) : (hidT h H).objs.size = h.objs.size := PySem.W.hideAll_size _ _
theorem z3d {h : Heap} {H : Hp} {b : Addr} {o : Obj} (e : h.get? b = some o) (n : H b = none) : (hidT h H).get? b = some o :=
  PySem.W.hideAll_get _ e fun hm => by
    have q : (H b).isSome = true := (List.mem_filter.mp hm).2
    rw [n] at q; simp at q
theorem z4g {h : Heap} {H : Hp} {b : Addr} {o : Obj} (e : (hidT h H).get? b = some o) : h.get? b = some o /\ H b = none := by
  have e' : h.get? b = some o := PySem.W.of_hideAll (trk h H) e
  refine ⟨e', ?_⟩
  cases q : H b with
  | none => rfl
  | some x =>
    have hm : b ∈ trk h H := List.mem_filter.mpr ⟨List.mem_range.mpr (Heap.lt_size e'), by simp [q]⟩
    have z : (hidT h H).get? b = none := PySem.W.hideAll_none (trk h H) hm
    rw [z] at e; cases e
noncomputable def y0e (g h : Heap) (L : Addr) : List (Addr × Obj) := (List.range h.objs.size).filterMap fun a => if a = L ∨ (g.get? a).isSome = true then none else (h.get? a).map fun o => (a, o)
noncomputable def rest (g h : Heap) (L d : Addr) : List (Addr × Obj) := (y0e g h L).filter fun p => decide (p.1 ≠ d)
end L2
namespace L2
open PySem PySem.Spec PyProof.Rows
structure Mod (K : PySem.W.Frag) (mg : Str -> Option Value) (base : Heap) : Prop where
  kin : K.In base
  glob : base.Ns mainGlobals mg
  blt : ∃ mb, base.Ns builtinsNs mb /\ ∀ x : Str, x ≠ "__name__" -> mb x = bootBuiltins x
  nolimit : base.NoLimit
structure Cx where
  prog : Program
  w : World
  K : PySem.W.Frag
  mg : Str -> Option Value
  base : Heap
  A : Around
  N : List Str
  s₀ : Shared
  H₀ : Hp
  env : Env
  outer : List Env
  stack : List Env
  ex : List Addr
  fn : Str -> Bool
  calm : Bool
  pn : List (Addr × Obj)
  xe : Value -> Shared -> Prop
noncomputable def frs (l : List Env) : List Addr := l.filterMap (·.frame)
noncomputable abbrev Cx.fs (X : Cx) : List Addr := frs X.outer
noncomputable def Vis (sc : Scope) (x : Str) : Prop := sc.names.lookup x = some .local ∨ sc.names.lookup x = some .cell ∨ sc.names.lookup x = some .free
noncomputable def Loc (sc : Scope) (x : Str) : Prop := sc.names.lookup x = some .local ∨ sc.names.lookup x = some .cell
noncomputable def Look (env : Env) (h : Heap) (m : Str -> Option Value) (x : Str) (u : Value) : Prop :=
  (env.kindOf x = some .local /\ m x = some u) ∨ ((env.kindOf x = some .cell ∨ env.kindOf x = some .free) /\ ∃ c, env.cells.lookup x = some c /\ h.IsCell c (some u))
structure Cx.Ok (X : Cx) : Prop where
  mod : Mod X.K X.mg X.base
  kind : X.env.scope.kind = .function
  glob : X.env.globals = mainGlobals
  blt : X.env.builtins = builtinsNs
  above : X.s₀.heap.objs.size <= X.env.locals
  inj : ∀ x y c, X.env.cells.lookup x = some c -> X.env.cells.lookup y = some c -> x = y
  has : ∀ x, (X.env.kindOf x = some .cell ∨ X.env.kindOf x = some .free) -> ∃ c, X.env.cells.lookup x = some c
  cab : ∀ x c, X.fn x = true -> X.env.cells.lookup x = some c -> X.s₀.heap.objs.size <= c
  hd : X.calm = true -> X.A.handled = none
  frames : X.A.frames = some X.stack
  stk : X.stack = X.outer ∨ (X.stack = X.env :: X.outer /\ X.env.frame = some X.env.locals)
  exf : ∀ b ∈ X.ex, b ≠ X.env.locals /\ ∀ x c, X.env.cells.lookup x = some c -> c ≠ b
  bs : ∀ b o, X.base.get? b = some o -> X.s₀.heap.get? b = some o /\ X.H₀ b = none
  bsz : X.base.objs.size <= X.s₀.heap.objs.size
  noex : ∀ b o, X.base.get? b = some o -> b ∉ X.ex
  exfs : ∀ b ∈ X.ex, b ∉ X.fs
  funs : X.s₀.heap.FunFrames X.base X.outer
  frf : ∀ b ∈ X.fs, X.H₀ b = none
structure Inv (X : Cx) (pins : List (Addr × Obj)) (σ : List (Option V)) (H : Hp) (s : Shared) : Prop where
  ok : X.Ok
  os : s.os = X.s₀.os
  bare : AllBare s.gens
  base : Un X.fs X.ex X.H₀ H X.s₀.heap s.heap
  loc : ∃ m, s.heap.Ns X.env.locals m /\ ∀ (i : Nat) (x : Str) (v : V), X.N[i]? = some x -> σ[i]? = some (some v) -> Vis X.env.scope x -> ∃ u, RelV v u /\ Look X.env s.heap m x u
  cell : ∀ x c, X.env.cells.lookup x = some c -> ∃ v, s.heap.IsCell c v
  free : H X.env.locals = none
  freeC : ∀ x c, X.env.cells.lookup x = some c -> H c = none
  pin : ∀ p ∈ X.pn ++ pins, s.heap.get? p.1 = some p.2 /\ H p.1 = none /\ p.1 ≠ X.env.locals /\ p.1 ∉ X.fs /\ ∀ v, p.2.data ≠ .cell v
  hok : HOk X.prog X.w H s.heap
  len : σ.length = X.N.length
section
variable {X : Cx} {pins : List (Addr × Obj)} {σ : List (Option V)} {H H' : Hp} {s : Shared} {h' : Heap}
theorem Cx.Ok.nofr (ok : X.Ok) {b : Addr} {o : Obj} (e : X.base.get? b = some o) : b ∉ X.fs := fun hb => by
  have := (ok.funs.mem hb).1
  rw [e] at this; cases this
theorem Inv.bs (I : Inv X pins σ H s) : ∀ b o, X.base.get? b = some o -> s.heap.get? b = some o /\ H b = none := fun b o e =>
  ⟨I.base.keep b o (I.ok.bs b o e).1 (I.ok.bs b o e).2 (I.ok.nofr e) (I.ok.noex b o e), I.base.free b o (I.ok.bs b o e).1 (I.ok.bs b o e).2 (I.ok.noex b o e)⟩
theorem Inv.bk (I : Inv X pins σ H s) : ∀ b o, X.base.get? b = some o -> s.heap.get? b = some o := fun b o e => (I.bs b o e).1
theorem Inv.mod (I : Inv X pins σ H s) : Mod X.K X.mg X.base := I.ok.mod
theorem Inv.kIn (I : Inv X pins σ H s) : X.K.In s.heap := I.ok.mod.kin.keeps I.bk
theorem Inv.nolimit (I : Inv X pins σ H s) : s.heap.NoLimit := I.ok.mod.nolimit.keeps I.bk
theorem Inv.fr (I : Inv X pins σ H s) : ∃ m, Fr X.base X.env.locals s.heap m :=
  let ⟨m, hn, _⟩ := I.loc
  ⟨m, hn, I.bk, Nat.le_trans I.ok.bsz I.ok.above⟩
theorem Inv.lt (I : Inv X pins σ H s) : X.env.locals < s.heap.objs.size := let ⟨_, hn, _⟩ := I.loc; hn.lt
theorem Inv.sz (I : Inv X pins σ H s) : X.s₀.heap.objs.size <= s.heap.objs.size := Nat.le_trans I.ok.above (Nat.le_of_lt I.lt)
theorem Inv.nofs (I : Inv X pins σ H s) {a : Addr} (h : s.heap.objs.size <= a) : a ∉ X.fs := fun hb => by
  obtain ⟨_, o, ho, _⟩ := I.ok.funs.mem hb
  exact absurd (Nat.lt_of_lt_of_le (Heap.lt_size ho) (Nat.le_trans I.sz h)) (Nat.lt_irrefl _)
theorem Inv.cne (I : Inv X pins σ H s) : ∀ x c, X.env.cells.lookup x = some c -> c ≠ X.env.locals := fun x c e z => by
  obtain ⟨v, o, ho, hd⟩ := I.cell x c e
  obtain ⟨m, ⟨o', es, ep, ho', hd', _⟩, _⟩ := I.loc
  rw [z, ho'] at ho; cases ho; rw [hd'] at hd; cases hd
theorem Inv.funs (I : Inv X pins σ H s) : s.heap.FunFrames X.base X.outer := by
  have all : ∀ (l : List Env), (∀ b ∈ frs l, b ∈ X.fs) -> X.s₀.heap.FunFrames X.base l -> s.heap.FunFrames X.base l := by
    intro l
    induction l with
    | nil => intro _ _; trivial
    | cons env r ih =>
      intro hs hl
      obtain ⟨hk, ⟨L, o, hf, hn, ho, hd⟩, hr⟩ := hl
      have hL : L ∈ X.fs := hs L (by unfold frs; rw [List.filterMap_cons, hf]; exact List.mem_cons_self)
      obtain ⟨sl, e⟩ := I.base.slot L o ho (I.ok.frf L hL) hL fun z => I.ok.exfs L z hL
      exact ⟨hk, ⟨L, _, hf, hn, e, hd⟩, ih (fun b hb => hs b (by unfold frs; rw [List.filterMap_cons, hf]; exact List.mem_cons_of_mem _ hb)) hr⟩
  exact all X.outer (fun _ hb => hb) I.ok.funs
theorem Inv.stack (I : Inv X pins σ H s) : s.heap.FunFrames X.base X.stack := by
  rcases I.ok.stk with e | ⟨e, hf⟩
  · rw [e]; exact I.funs
  · rw [e]
    obtain ⟨m, hn, _⟩ := I.loc
    refine .cons (by rw [I.ok.kind]; decide) hf hn ?_ I.funs
    exact Heap.get?_none_of_le (Nat.le_trans I.ok.bsz I.ok.above)
theorem Inv.stkSub (I : Inv X pins σ H s) : ∀ b ∈ frs X.stack, b ∈ X.env.locals :: X.fs := fun b hb => by
  rcases I.ok.stk with e | ⟨e, hf⟩
  · rw [e] at hb; exact List.mem_cons_of_mem _ hb
  · rw [e] at hb
    unfold frs at hb
    rw [List.filterMap_cons, hf] at hb
    exact hb
theorem Inv.stkFree (I : Inv X pins σ H s) : ∀ b ∈ frs X.stack, H b = none := fun b hb => by
  rcases List.mem_cons.mp (I.stkSub b hb) with e | hb
  · rw [e]; exact I.free
  · obtain ⟨_, o, ho, _⟩ := I.ok.funs.mem hb
    exact I.base.free b o ho (I.ok.frf b hb) fun z => I.ok.exfs b z hb
theorem Inv.step {g' : Array GenState} {t' : Nat} {d' : Drawn} {ch : List Addr} (I : Inv X pins σ H s)
    (hch : ∀ b ∈ ch, (b ∈ X.ex ∨ X.s₀.heap.get? b = none) /\ b ≠ X.env.locals /\ (∀ x c, X.env.cells.lookup x = some c -> c ≠ b) /\ ∀ p ∈ X.pn ++ pins, p.1 ≠ b)
    (keep : ∀ b o, b ≠ X.env.locals -> b ∉ X.fs -> b ∉ ch -> s.heap.get? b = some o -> H b = none -> h'.get? b = some o)
    (slot : ∀ b o, b ≠ X.env.locals -> b ∈ X.fs -> b ∉ ch -> s.heap.get? b = some o -> H b = none -> ∃ sl, h'.get? b = some { o with slots := sl }) (free : ∀ b o, b ∉ ch -> s.heap.get? b = some o -> H b = none -> H' b = none)
    (there : ∀ b o, b ∉ ch -> s.heap.get? b = some o -> ∃ o', h'.get? b = some o')
    (tups : ∀ b xs, H b = some (.tup xs) -> H' b = some (.tup xs)) (frzs : ∀ b o u, H b = some (.frz o u) -> H' b = some (.frz o u)) (tbls : ∀ b ps, H b = some (.tbl ps) -> ∃ more, H' b = some (.tbl (ps ++ more)))
    (ns : ∀ m, s.heap.Ns X.env.locals m -> h'.Ns X.env.locals m) (hok : HOk X.prog X.w H' h') (hg : AllBare g') :
    Inv X pins σ H' { s with heap := h', gens := g', drawn := d', toks := t' } := by
  have neL : ∀ b o, X.s₀.heap.get? b = some o -> b ≠ X.env.locals := fun b o e => Nat.ne_of_lt (Nat.lt_of_lt_of_le (Heap.lt_size e) I.ok.above)
  have neC : ∀ b o, X.s₀.heap.get? b = some o -> b ∉ X.ex -> b ∉ ch := fun b o e hx hb => by
    rcases (hch b hb).1 with z | z
    · exact hx z
    · rw [e] at z; cases z
  have cellK : ∀ x c, X.env.cells.lookup x = some c -> ∀ v, s.heap.IsCell c v -> h'.IsCell c v := fun x c e v ⟨o, ho, hd⟩ => by
    have nch : c ∉ ch := fun z => (hch c z).2.2.1 x c e rfl
    by_cases hc : c ∈ X.fs
    · obtain ⟨sl, q⟩ := slot c o (I.cne x c e) hc nch ho (I.freeC x c e)
      exact ⟨_, q, hd⟩
    · exact ⟨o, keep c o (I.cne x c e) hc nch ho (I.freeC x c e), hd⟩
  refine ⟨I.ok, I.os, hg, ⟨fun b o e n hb hx => ?_, fun b o e n hb hx => ?_, fun b o e n hx => ?_, fun b o e hx => ?_, fun b xs e => tups b xs (I.base.tups b xs e), fun b o xs e => frzs b o xs (I.base.frzs b o xs e), fun b ps e => ?_⟩, ?_, fun x c e => ?_, ?_, fun x c e => ?_, fun p hp => ?_, hok, I.len⟩
  · exact keep b o (neL b o e) hb (neC b o e hx) (I.base.keep b o e n hb hx) (I.base.free b o e n hx)
  · obtain ⟨sl, e1⟩ := I.base.slot b o e n hb hx
    obtain ⟨sl', e2⟩ := slot b _ (neL b o e) hb (neC b o e hx) e1 (I.base.free b o e n hx)
    exact ⟨sl', e2⟩
  · obtain ⟨o', e1⟩ := I.base.there b o e hx
    exact free b o' (neC b o e hx) e1 (I.base.free b o e n hx)
  · obtain ⟨o', e1⟩ := I.base.there b o e hx
    exact there b o' (neC b o e hx) e1
  · obtain ⟨m1, e1⟩ := I.base.tbls b ps e
    obtain ⟨m2, e2⟩ := tbls b _ e1
    exact ⟨m1 ++ m2, by rw [e2, Array.append_assoc]⟩
  · obtain ⟨m, hn, hl⟩ := I.loc
    refine ⟨m, ns m hn, fun i x v e1 e2 e3 => ?_⟩
    obtain ⟨u, r, l⟩ := hl i x v e1 e2 e3
    refine ⟨u, r, ?_⟩
    rcases l with l | ⟨k, c, e, z⟩
    · exact .inl l
    · exact .inr ⟨k, c, e, cellK x c e _ z⟩
  · obtain ⟨v, z⟩ := I.cell x c e
    exact ⟨v, cellK x c e v z⟩
  · obtain ⟨m, ⟨o, _, _, ho, _⟩, _⟩ := I.loc
    exact free _ o (fun z => (hch _ z).2.1 rfl) ho I.free
  · obtain ⟨v, o, ho, hd⟩ := I.cell x c e
    exact free c o (fun z => (hch c z).2.2.1 x c e rfl) ho (I.freeC x c e)
  · obtain ⟨e, n, ne, nf, d⟩ := I.pin p hp
    have nch : p.1 ∉ ch := fun z => (hch p.1 z).2.2.2 p hp rfl
    exact ⟨keep p.1 p.2 ne nf nch e n, free p.1 p.2 nch e n, ne, nf, d⟩
theorem Inv.un {t' : Nat} (I : Inv X pins σ H s) (u : Un X.fs [] H H' s.heap h') (hok : HOk X.prog X.w H' h') : Inv X pins σ H' { s with heap := h', toks := t' } := by
  obtain ⟨m, ⟨o, es, ep, ho, r⟩, _⟩ := id I.loc
  obtain ⟨sl, hL⟩ := u.any ho I.free (by simp)
  exact I.step (g' := s.gens) (d' := s.drawn) (ch := []) (fun _ z => nomatch z) (fun b o _ hb _ e n => u.keep b o e n hb (by simp)) (fun b o _ hb _ e n => u.slot b o e n hb (by simp)) (fun b o _ e n => u.free b o e n (by simp)) (fun b o _ e => u.there b o e (by simp)) u.tups u.frzs u.tbls (fun m' hm => by
    obtain ⟨o', es', ep', ho', r'⟩ := hm
    rw [ho] at ho'; cases ho'
    exact ⟨_, es', ep', hL, r'⟩) hok I.bare
theorem Inv.call {g' : Array GenState} {t' : Nat} {d' : Drawn} {ch : List Addr} (I : Inv X pins σ H s) (u : Un (frs X.stack) ch H H' s.heap h') (hok : HOk X.prog X.w H' h') (hg : AllBare g')
    (hch : ∀ b ∈ ch, (b ∈ X.ex ∨ X.s₀.heap.get? b = none) /\ b ≠ X.env.locals /\ (∀ x c, X.env.cells.lookup x = some c -> c ≠ b) /\ ∀ p ∈ X.pn ++ pins, p.1 ≠ b) :
    Inv X pins σ H' { s with heap := h', gens := g', drawn := d', toks := t' } := by
  obtain ⟨m, ⟨o, es, ep, ho, r⟩, _⟩ := id I.loc
  obtain ⟨sl, hL⟩ := u.any ho I.free fun z => (hch _ z).2.1 rfl
  exact I.step (ch := ch) hch (fun b o hL hb hc e n => u.keep b o e n (fun z => (List.mem_cons.mp (I.stkSub b z)).elim hL hb) hc) (fun b o _ _ hc e n => u.any e n hc) (fun b o hc e n => u.free b o e n hc) (fun b o hc e => u.there b o e hc) u.tups u.frzs u.tbls (fun m' hm => by
    obtain ⟨o', es', ep', ho', r'⟩ := hm
    rw [ho] at ho'; cases ho'
    exact ⟨_, es', ep', hL, r'⟩) hok hg
theorem Inv.turned {t' : Nat} {it : Addr} (I : Inv X pins σ H s) (k : ∀ b o, b ≠ it -> s.heap.get? b = some o -> h'.get? b = some o) (hn : H it = none) (hL : it ≠ X.env.locals)
    (h1 : it ∈ X.ex ∨ X.s₀.heap.objs.size <= it) (h2 : ∀ x c, X.env.cells.lookup x = some c -> c ≠ it) (h3 : ∀ p ∈ X.pn ++ pins, p.1 ≠ it) : Inv X pins σ H { s with heap := h', toks := t' } := by
  have nit : ∀ b u, H b = some u -> b ≠ it := fun b u e z => by rw [z, hn] at e; cases e
  refine I.step (g' := s.gens) (d' := s.drawn) (ch := [it]) (fun b hb => ?_) (fun b o _ _ hc e _ => k b o (fun z => hc (by simp [z])) e) (fun b o _ _ hc e _ => ⟨o.slots, k b o (fun z => hc (by simp [z])) e⟩) (fun _ _ _ _ n => n)
    (fun b o hc e => ⟨o, k b o (fun z => hc (by simp [z])) e⟩) (fun _ _ e => e) (fun _ _ _ e => e) (fun b ps e => ⟨#[], by rw [e]; simp⟩) (fun m hm => ?_) (fun b u e => ?_) I.bare
  · have e : b = it := by simpa using hb
    subst e
    exact ⟨h1.imp_right fun z => Heap.get?_none_of_le z, hL, h2, h3⟩
  · obtain ⟨o, es, ep, ho, r⟩ := hm
    exact ⟨o, es, ep, k _ o (Ne.symm hL) ho, r⟩
  · refine (I.hok b u e).stay (fun c v hc q => k c v ?_ q) (fun _ q => q) fun _ _ q => q
    rcases hc with z | z
    · rw [z]; exact nit b u e
    · exact nit c _ z
theorem Inv.tok (I : Inv X pins σ H s) (t : Nat) : Inv X pins σ H { s with toks := t } := I.un (h' := s.heap) (t' := t) Un.refl I.hok
theorem Inv.kept {t' : Nat} (I : Inv X pins σ H s) (k : ∀ b u, s.heap.get? b = some u -> h'.get? b = some u) : Inv X pins σ H { s with heap := h', toks := t' } := I.un (Un.kept k) (I.hok.kept k)
theorem Inv.laid {a : Addr} {o : HO} {t' : Nat} (I : Inv X pins σ H s) (k : ∀ b u, s.heap.get? b = some u -> h'.get? b = some u) (hp : s.heap.objs.size <= a) (new : z1u X.prog X.w (upd H a o) h' a o) :
    Inv X pins σ (upd H a o) { s with heap := h', toks := t' } := I.un (Un.laid k hp (I.hok.fresh hp)) (I.hok.laid k hp new)
theorem Inv.write {x e : Addr} {o : HO} {t' : Nat} (I : Inv X pins σ H s) (mu : Mut (H x)) (he : e = x ∨ H e = some (.own x)) (k : ∀ b u, b ≠ e -> s.heap.get? b = some u -> h'.get? b = some u) (heo : ∃ u, h'.get? e = some u)
    (new : z1u X.prog X.w (upd H x o) h' x o) : Inv X pins σ (upd H x o) { s with heap := h', toks := t' } := I.un (Un.write mu he k heo) (I.hok.write mu he k heo new)
theorem Inv.pins_of {pins' : List (Addr × Obj)} (I : Inv X pins σ H s) (h : ∀ p ∈ pins', s.heap.get? p.1 = some p.2 /\ H p.1 = none /\ p.1 ≠ X.env.locals /\ p.1 ∉ X.fs /\ ∀ v, p.2.data ≠ .cell v) : Inv X pins' σ H s :=
  ⟨I.ok, I.os, I.bare, I.base, I.loc, I.cell, I.free, I.freeC, fun p hp => (List.mem_append.mp hp).elim (fun z => I.pin p (List.mem_append_left _ z)) (h p), I.hok, I.len⟩
theorem z4t {N : List Str} (hN : N.Nodup) {i j : Nat} {x : Str} (a : N[i]? = some x) (b : N[j]? = some x) : i = j := by
  obtain ⟨h1, e1⟩ := List.getElem?_eq_some_iff.mp a
  obtain ⟨h2, e2⟩ := List.getElem?_eq_some_iff.mp b
  exact (List.getElem_inj hN).mp (e1.trans e2.symm)
theorem z5s {M : Model} {A : Around} {E : Value -> Shared -> Prop} {i : Nat} {x : Str} {v : V} {u : Value} {Q : Unit -> Shared -> Prop} (I : Inv X pins σ H s) (hN : X.N.Nodup) (hi : X.N[i]? = some x) (hx : Loc X.env.scope x) (r : RelV v u)
    (h : ∀ s', Inv X pins (σ.set i (some v)) H s' -> (∃ a, Heap.SameBut a s.heap s'.heap /\ (a = X.env.locals ∨ X.env.cells.lookup x = some a)) -> Q () s') (hf : X.fn x = true ∨ X.env.scope.names.lookup x = some .local := by first | exact .inl rfl | exact .inr rfl | assumption) : wpAny M A (storeName X.env x u) Q E s := by
  obtain ⟨m, hn, hl⟩ := id I.loc
  have hcls : (X.env.scope.kind == .class || (X.env.scope.kind == .module && X.env.locals != X.env.globals)) = false := by rw [I.ok.kind]; rfl
  have hiσ : i < σ.length := by rw [I.len]; exact (List.getElem?_eq_some_iff.mp hi).1
  have cne := I.cne
  have tracked : ∀ {a : Addr} {h' : Heap}, (∃ o, s.heap.get? a = some o /\ H a = none) -> Heap.SameBut a s.heap h' -> HOk X.prog X.w H h' := fun {a h'} ha hs b ob e => by
    obtain ⟨_, _, hfree⟩ := ha
    refine (I.hok b ob e).stay (fun c w' hc q => (hs.2 c ?_).trans q) (fun _ q => q) fun _ _ q => q
    rintro rfl
    rcases hc with rfl | hc
    · rw [hfree] at e; cases e
    · rw [hfree] at hc; cases hc
  rcases hx with hk | hk
  · refine wpAny_storeName_local hk hn (fun h' hn' hs => ?_) hcls
    obtain ⟨oL, _, _, hoL, _⟩ := id hn
    refine h _ ⟨I.ok, I.os, I.bare, ⟨fun b o e n hb hx => ?_, fun b o e n hb hx => ?_, I.base.free, fun b o e hx => ?_, I.base.tups, I.base.frzs, I.base.tbls⟩, ⟨_, hn', fun j y v' e1 e2 e3 => ?_⟩, fun y c e => ?_, I.free, I.freeC, fun p hp => ?_, tracked ⟨oL, hoL, I.free⟩ hs, by simpa using I.len⟩ ⟨_, hs, .inl rfl⟩
    · exact (hs.2 b (Nat.ne_of_lt (Nat.lt_of_lt_of_le (Heap.lt_size e) I.ok.above))).trans (I.base.keep b o e n hb hx)
    · obtain ⟨sl, e1⟩ := I.base.slot b o e n hb hx
      exact ⟨sl, (hs.2 b (Nat.ne_of_lt (Nat.lt_of_lt_of_le (Heap.lt_size e) I.ok.above))).trans e1⟩
    · obtain ⟨o', e1⟩ := I.base.there b o e hx
      exact ⟨o', (hs.2 b (Nat.ne_of_lt (Nat.lt_of_lt_of_le (Heap.lt_size e) I.ok.above))).trans e1⟩
    · by_cases hj : j = i
      · subst hj
        rw [hi] at e1; cases e1
        rw [List.getElem?_set_self hiσ] at e2
        cases e2
        exact ⟨u, r, .inl ⟨hk, by simp⟩⟩
      · rw [List.getElem?_set_ne (Ne.symm hj)] at e2
        obtain ⟨u', r', q⟩ := hl j y v' e1 e2 e3
        refine ⟨u', r', ?_⟩
        rcases q with ⟨k, e⟩ | ⟨k, c, e, z⟩
        · refine .inl ⟨k, ?_⟩
          have : y ≠ x := fun e => hj (z4t hN e1 (e ▸ hi))
          simp [this, e]
        · exact .inr ⟨k, c, e, z.sameBut hs (cne y c e)⟩
    · obtain ⟨w', z⟩ := I.cell y c e
      exact ⟨w', z.sameBut hs (cne y c e)⟩
    · obtain ⟨e, n, ne, nf, d⟩ := I.pin p hp
      exact ⟨(hs.2 p.1 ne).trans e, n, ne, nf, d⟩
  · have hfn : X.fn x = true := by
      rcases hf with z | z
      · exact z
      · rw [z] at hk; cases hk
    obtain ⟨c, hc⟩ := I.ok.has x (.inl hk)
    obtain ⟨w', z⟩ := I.cell x c hc
    refine wpAny_storeName_cell I.ok.kind hk hc z (fun h' hc' hs => ?_)
    obtain ⟨oc, hoc, hocd⟩ := id z
    refine h { s with heap := h' } ⟨I.ok, I.os, I.bare, ⟨fun b o e n hb hx => ?_, fun b o e n hb hx => ?_, I.base.free, fun b o e hx => ?_, I.base.tups, I.base.frzs, I.base.tbls⟩, ⟨m, hn.sameBut hs (Ne.symm (cne x c hc)), fun j y v' e1 e2 e3 => ?_⟩, fun y c' e => ?_, I.free, I.freeC, fun p hp => ?_, tracked ⟨oc, hoc, I.freeC x c hc⟩ hs, by simpa using I.len⟩ ⟨c, hs, .inr hc⟩
    · exact (hs.2 b (Nat.ne_of_lt (Nat.lt_of_lt_of_le (Heap.lt_size e) (I.ok.cab x c hfn hc)))).trans (I.base.keep b o e n hb hx)
    · obtain ⟨sl, e1⟩ := I.base.slot b o e n hb hx
      exact ⟨sl, (hs.2 b (Nat.ne_of_lt (Nat.lt_of_lt_of_le (Heap.lt_size e) (I.ok.cab x c hfn hc)))).trans e1⟩
    · obtain ⟨o', e1⟩ := I.base.there b o e hx
      exact ⟨o', (hs.2 b (Nat.ne_of_lt (Nat.lt_of_lt_of_le (Heap.lt_size e) (I.ok.cab x c hfn hc)))).trans e1⟩
    · by_cases hj : j = i
      · subst hj
        rw [hi] at e1; cases e1
        rw [List.getElem?_set_self hiσ] at e2
        cases e2
        exact ⟨u, r, .inr ⟨.inl hk, c, hc, hc'⟩⟩
      · rw [List.getElem?_set_ne (Ne.symm hj)] at e2
        obtain ⟨u', r', q⟩ := hl j y v' e1 e2 e3
        refine ⟨u', r', ?_⟩
        rcases q with q | ⟨k, c', e, z'⟩
        · exact .inl q
        · refine .inr ⟨k, c', e, z'.sameBut hs ?_⟩
          rintro rfl
          exact hj (z4t hN e1 (I.ok.inj _ _ _ e hc ▸ hi))
    · by_cases hcc : c' = c
      · subst hcc; exact ⟨_, hc'⟩
      · obtain ⟨w2, z2⟩ := I.cell y c' e
        exact ⟨w2, z2.sameBut hs hcc⟩
    · obtain ⟨e, n, ne, nf, d⟩ := I.pin p hp
      refine ⟨(hs.2 p.1 ?_).trans e, n, ne, nf, d⟩
      intro q
      rw [q, hoc] at e
      have q' : oc = p.2 := Option.some.inj e
      exact d w' (by rw [<- q']; exact hocd)
theorem z2x {M : Model} {A : Around} {E : Value -> Shared -> Prop} {i : Nat} {x : Str} {v : V} {u : Value} {Q : Unit -> Shared -> Prop} (I : Inv X pins σ H s) (hN : X.N.Nodup) (hi : X.N[i]? = some x) (hx : Loc X.env.scope x) (r : RelV v u)
    (h : ∀ s', Inv X pins (σ.set i (some v)) H s' -> Q () s') (hf : X.fn x = true ∨ X.env.scope.names.lookup x = some .local := by first | exact .inl rfl | exact .inr rfl | assumption) : wpAny M A (storeName X.env x u) Q E s :=
  z5s I hN hi hx r (fun s' I' _ => h s' I') hf
end
noncomputable abbrev XK := Value -> Option Addr -> Hp -> Prop
noncomputable abbrev St := List (Option V)
noncomputable abbrev VK := V -> Hp -> Prop
noncomputable abbrev TE := St -> Hp -> VK -> Prop
noncomputable abbrev TT := St -> Hp -> (Bool -> Hp -> Prop) -> Prop
noncomputable abbrev TA := St -> Hp -> (List V -> Hp -> Prop) -> Prop
structure Ends where
  nx : St -> Hp -> Prop
  rt : VK
  bk : St -> Hp -> Prop := fun _ _ => False
  ct : St -> Hp -> Prop := fun _ _ => False
noncomputable abbrev TS := Ends -> St -> Hp -> Prop
noncomputable def EP (X : Cx) (pins : List (Addr × Obj)) (σ : St) (Q : VK) (u : Value) (s' : Shared) : Prop := ∃ v H', Inv X pins σ H' s' /\ RelV v u /\ Q v H'
noncomputable def TP (X : Cx) (pins : List (Addr × Obj)) (σ : St) (Q : Bool -> Hp -> Prop) (b : Bool) (s' : Shared) : Prop := ∃ H', Inv X pins σ H' s' /\ Q b H'
noncomputable def SP (X : Cx) (pins : List (Addr × Obj)) (D : Ends) (f : Flow) (s' : Shared) : Prop :=
  match f with
  | .next => ∃ σ' H', Inv X pins σ' H' s' /\ D.nx σ' H'
  | .brk => ∃ σ' H', Inv X pins σ' H' s' /\ D.bk σ' H'
  | .cont => ∃ σ' H', Inv X pins σ' H' s' /\ D.ct σ' H'
  | .ret u => ∃ v σ' H', Inv X pins σ' H' s' /\ RelV v u /\ D.rt v H'
noncomputable def PE (X : Cx) (e : Expr) (t : TE) : Prop :=
  ∀ (pins : List (Addr × Obj)) (s : Shared) (σ : St) (H : Hp) (Q : VK), Inv X pins σ H s -> t σ H Q -> wpAny (model X.prog X.w) X.A (eval e X.env) (EP X pins σ Q) X.xe s
noncomputable def PT (X : Cx) (e : Expr) (t : TT) : Prop :=
  ∀ (pins : List (Addr × Obj)) (s : Shared) (σ : St) (H : Hp) (Q : Bool -> Hp -> Prop), Inv X pins σ H s -> t σ H Q -> wpAny (model X.prog X.w) X.A (isTrue e X.env (eval e X.env)) (TP X pins σ Q) X.xe s
noncomputable def PW (X : Cx) (e : Expr) (t : TT) : Prop :=
  ∀ (whole : Sem Value) (pins : List (Addr × Obj)) (s : Shared) (σ : St) (H : Hp) (Q : Bool -> Hp -> Prop), Inv X pins σ H s -> t σ H Q -> wpAny (model X.prog X.w) X.A (isTrue e X.env whole) (TP X pins σ Q) X.xe s
theorem PW.pt {X : Cx} {e : Expr} {t : TT} (h : PW X e t) : PT X e t := h _
noncomputable def PSs (X : Cx) (st : List Stmt) (t : TS) : Prop :=
  ∀ (pins : List (Addr × Obj)) (s : Shared) (σ : St) (H : Hp) (D : Ends), Inv X pins σ H s -> t D σ H -> wpAny (model X.prog X.w) X.A (execs st X.env) (SP X pins D) X.xe s
theorem thn {α : Type} {t : Sem α} {Q Q' : α -> Shared -> Prop} {M : Model} {A : Around} {E : Value -> Shared -> Prop} {s : Shared} (h : wpAny M A t Q E s) (hQ : ∀ a s, Q a s -> Q' a s) : wpAny M A t Q' E s := wpAny_mono h hQ fun _ _ x => x
end L2
namespace L2
open PySem PySem.Spec PyProof.Rows
section
variable {X : Cx}
noncomputable def tVar (i : Nat) : TE := fun σ H Q => ∃ v, σ[i]? = some (some v) /\ Q v H
noncomputable def tC (v : V) : TE := fun _ H Q => Q v H
theorem z4q {i : Nat} {x : Str} {pos : Pos} (hN : X.N[i]? = some x) (hv : Vis X.env.scope x) (hd : (x == ("__debug__" : Str)) = false := by decide) (hcd : (x == ("__classdict__" : Str)) = false := by decide) : PE X (.Name x pos) (tVar i) := by
  intro pins s σ H Q I h
  obtain ⟨v, e, h⟩ := h
  obtain ⟨m, hn, hl⟩ := I.loc
  obtain ⟨u, r, l⟩ := hl i x v hN e hv
  have fin : EP X pins σ Q u s := ⟨v, H, I, r, h⟩
  rcases l with ⟨hk, hm⟩ | ⟨hk, c, hc, hcell⟩
  · exact wpAny_Name (wpAny_loadName_local I.ok.kind hk hn hm fin) hd
  · rcases hk with hk | hk
    · exact wpAny_Name (wpAny_loadName_cell I.ok.kind hk hc hcell fin) hd
    · exact wpAny_Name (wpAny_loadName_free I.ok.kind hk hc hcell fin hcd) hd
theorem y0n {i j pos} : PE X (.Constant (.int i) j pos) (tC (.int i)) := fun _ _ _ H _ I h => wpAny_Constant_int ⟨.int i, H, I.tok _, ⟨_, rfl⟩, h⟩
theorem y2j {b j pos} : PE X (.Constant (.bool b) j pos) (tC (.bl b)) := fun _ _ _ H _ I h => Constant_bool ⟨.bl b, H, I, rfl, h⟩
noncomputable def Gl (X : Cx) (x : Str) : Prop := X.env.kindOf x = some .globalImplicit
theorem z6p {E : Value -> Shared -> Prop} {pins : List (Addr × Obj)} {s : Shared} {σ : St} {H : Hp} {x : Str} {u : Value} {pos : Pos} {Q : Value -> Shared -> Prop} (I : Inv X pins σ H s) (hg : Gl X x) (hm : X.mg x = some u) (h : Q u s)
    (hd : (x == ("__debug__" : Str)) = false := by decide) : wpAny (model X.prog X.w) X.A (eval (.Name x pos) X.env) Q E s :=
  Calls.Name_function_global I.ok.kind hg (Calls.loadGlobal_global (by rw [I.ok.glob]; exact I.mod.glob.keeps I.bk) hm h) hd
theorem z3p {E : Value -> Shared -> Prop} {pins : List (Addr × Obj)} {s : Shared} {σ : St} {H : Hp} {x : Str} {u : Value} {pos : Pos} {Q : Value -> Shared -> Prop} (I : Inv X pins σ H s) (hg : Gl X x) (hm : X.mg x = none) (hv : bootBuiltins x = some u) (h : Q u s)
    (hn : x ≠ "__name__" := by decide) (hd : (x == ("__debug__" : Str)) = false := by decide) : wpAny (model X.prog X.w) X.A (eval (.Name x pos) X.env) Q E s := by
  obtain ⟨mb, h1, h2⟩ := I.mod.blt
  exact Calls.Name_function_global I.ok.kind hg (Calls.loadGlobal_builtin (by rw [I.ok.glob]; exact I.mod.glob.keeps I.bk) hm (by rw [I.ok.blt]; exact h1.keeps I.bk) ((h2 x hn).trans hv) h) hd
variable {a b : Expr} {ta tb : TE} {pos : Pos}
variable {tA tB' : TT} {rest : List Expr}
end
end L2
namespace L2
open PySem PySem.Spec PyProof.Rows
noncomputable def SqL (K : PySem.W.Frag) (H : Hp) (a : Addr) (xs : List V) : Prop :=
  Rd H a (.lst xs) ∨
    ∃ (o : Obj) (its : Array Value) (n : Nat), K.lookup a = some o /\ o.cls = .type "list" /\ o.dict = none /\ o.data = .seq its n /\ its.size <= sizeLine /\ Vals xs its.toList
noncomputable def SqT (K : PySem.W.Frag) (H : Hp) (a : Addr) (xs : List V) : Prop :=
  Rd H a (.tup xs) ∨
    ∃ (o : Obj) (its : Array Value) (n : Nat), K.lookup a = some o /\ o.cls = .type "tuple" /\ o.data = .seq its n /\ its.size <= sizeLine /\ Vals xs its.toList
noncomputable def absV : Value -> Option V
  | .none => some .non
  | .bool b => some (.bl b)
  | .int i _ => some (.int i)
  | .str x _ => some (.str x)
  | .bytes b _ => some (.byt b)
  | .float b _ => some (.flt b)
  | .ref a => some (.ref a)
  | .type n => some (.ty n)
  | _ => none
theorem RelV.abs {x : V} {u : Value} (r : RelV x u) : absV u = some x := by
  cases x with
  | non => cases r; rfl
  | bl _ => cases r; rfl
  | int _ => obtain ⟨t, rfl⟩ := r; rfl
  | str _ => obtain ⟨t, rfl⟩ := r; rfl
  | byt _ => obtain ⟨t, rfl⟩ := r; rfl
  | flt _ => obtain ⟨t, rfl⟩ := r; rfl
  | ref _ => cases r; rfl
  | ty _ => cases r; rfl
theorem RelV.inj {x y : V} {u : Value} (r : RelV x u) (q : RelV y u) : x = y := Option.some.inj (r.abs.symm.trans q.abs)
theorem Vals.inj : ∀ {xs ys : List V} {us : List Value}, Vals xs us -> Vals ys us -> xs = ys
  | _, _, _, .nil, .nil => rfl
  | _, _, _, .cons r t, .cons r' t' => by rw [r.inj r', Vals.inj t t']
section
variable {X : Cx} {pins : List (Addr × Obj)} {σ : St} {H : Hp} {s : Shared} {a : Addr} {xs ys : List V}
theorem SqL.of {K : PySem.W.Frag} (h : H a = some (.lst xs)) : SqL K H a xs := .inl (.inl h)
theorem SqT.of {K : PySem.W.Frag} (h : H a = some (.tup xs)) : SqT K H a xs := .inl (.inl h)
theorem Inv.list (I : Inv X pins σ H s) (h : SqL X.K H a xs) : ∃ its : List Value, Vals xs its /\ PlainL s.heap a its.toArray /\ xs.length <= sizeLine := by
  rcases h with h | ⟨o, its, n, hk, hc, hd, hs, hz, r⟩
  · obtain ⟨z, its, n, r, e⟩ := h.ok I.hok
    exact ⟨its, r, ⟨_, n, e, rfl, rfl, rfl⟩, z⟩
  · refine ⟨its.toList, r, ⟨o, n, I.kIn a o hk, hc, hd, by simpa using hs⟩, ?_⟩
    have e := r.length
    simp only [Array.length_toList] at e
    omega
theorem Inv.tuple (I : Inv X pins σ H s) (h : SqT X.K H a xs) : ∃ its : List Value, Vals xs its /\ IsTup s.heap a its.toArray /\ xs.length <= sizeLine := by
  rcases h with h | ⟨o, its, n, hk, hc, hs, hz, r⟩
  · obtain ⟨z, its, r, p⟩ := h.ok I.hok
    exact ⟨its, r, p, z⟩
  · refine ⟨its.toList, r, ⟨o, I.kIn a o hk, hc, n, by simpa using hs⟩, ?_⟩
    have e := r.length
    simp only [Array.length_toList] at e
    omega
theorem Inv.list_inj (I : Inv X pins σ H s) (h : SqL X.K H a xs) (h' : SqL X.K H a ys) : xs = ys := by
  obtain ⟨its, r, ⟨o, n, e, _, _, d⟩, _⟩ := I.list h
  obtain ⟨its', r', ⟨o', n', e', _, _, d'⟩, _⟩ := I.list h'
  rw [e] at e'; cases e'
  rw [d] at d'
  injection d' with d1 _
  have : its = its' := by simpa using congrArg Array.toList d1
  subst this
  exact r.inj r'
theorem Inv.tuple_inj (I : Inv X pins σ H s) (h : SqT X.K H a xs) (h' : SqT X.K H a ys) : xs = ys := by
  obtain ⟨its, r, ⟨o, e, _, n, d⟩, _⟩ := I.tuple h
  obtain ⟨its', r', ⟨o', e', _, n', d'⟩, _⟩ := I.tuple h'
  rw [e] at e'; cases e'
  rw [d] at d'
  injection d' with d1 _
  have : its = its' := by simpa using congrArg Array.toList d1
  subst this
  exact r.inj r'
end
noncomputable abbrev Cx.wish (X : Cx) (E : Value -> Shared -> Prop) : Cx := { X with xe := E }
noncomputable abbrev Cx.nox (X : Cx) : Cx := X.wish fun _ _ => False
theorem Cx.Ok.wish {X : Cx} (ok : X.Ok) (E : Value -> Shared -> Prop) : (X.wish E).Ok :=
  ⟨ok.mod, ok.kind, ok.glob, ok.blt, ok.above, ok.inj, ok.has, ok.cab, ok.hd, ok.frames, ok.stk, ok.exf, ok.bs, ok.bsz, ok.noex, ok.exfs, ok.funs, ok.frf⟩
theorem Cx.Ok.unwish {X : Cx} {E : Value -> Shared -> Prop} (ok : (X.wish E).Ok) : X.Ok :=
  ⟨ok.mod, ok.kind, ok.glob, ok.blt, ok.above, ok.inj, ok.has, ok.cab, ok.hd, ok.frames, ok.stk, ok.exf, ok.bs, ok.bsz, ok.noex, ok.exfs, ok.funs, ok.frf⟩
section
variable {X : Cx} {pins : List (Addr × Obj)} {σ : St} {H : Hp} {s : Shared} {E : Value -> Shared -> Prop}
theorem Inv.wish (I : Inv X pins σ H s) (E : Value -> Shared -> Prop) : Inv (X.wish E) pins σ H s := ⟨I.ok.wish E, I.os, I.bare, I.base, I.loc, I.cell, I.free, I.freeC, I.pin, I.hok, I.len⟩
theorem Inv.unwish (I : Inv (X.wish E) pins σ H s) : Inv X pins σ H s := ⟨I.ok.unwish, I.os, I.bare, I.base, I.loc, I.cell, I.free, I.freeC, I.pin, I.hok, I.len⟩
theorem SP.unwish {D : Ends} {f : Flow} {s' : Shared} (h : SP (X.wish E) pins D f s') : SP X pins D f s' := by
  cases f with
  | next => obtain ⟨σ', H', I, q⟩ := h; exact ⟨σ', H', I.unwish, q⟩
  | brk => obtain ⟨σ', H', I, q⟩ := h; exact ⟨σ', H', I.unwish, q⟩
  | cont => obtain ⟨σ', H', I, q⟩ := h; exact ⟨σ', H', I.unwish, q⟩
  | ret u => obtain ⟨v, σ', H', I, r, q⟩ := h; exact ⟨v, σ', H', I.unwish, r, q⟩
theorem PE.nox {e : Expr} {t : TE} (h : PE X.nox e t) : PE X e t := fun pins s σ H Q I hw =>
  wpAny_mono (h pins s σ H Q (I.wish _) hw) (fun _ _ ⟨v, H', I', r, q⟩ => ⟨v, H', I'.unwish, r, q⟩) fun _ _ z => False.elim z
theorem PT.nox {e : Expr} {t : TT} (h : PT X.nox e t) : PT X e t := fun pins s σ H Q I hw =>
  wpAny_mono (h pins s σ H Q (I.wish _) hw) (fun _ _ ⟨H', I', q⟩ => ⟨H', I'.unwish, q⟩) fun _ _ z => False.elim z
theorem PSs.nox {st : List Stmt} {t : TS} (h : PSs X.nox st t) : PSs X st t := fun pins s σ H D I hw =>
  wpAny_mono (h pins s σ H D (I.wish _) hw) (fun _ _ q => q.unwish) fun _ _ z => False.elim z
end
section
variable {X : Cx} {st : Stmt} {rest : List Stmt} {t u : TS} {e : Expr} {te : TE} {pos : Pos}
theorem Inv.quiet {pins : List (Addr × Obj)} {σ : St} {H : Hp} {s : Shared} (I : Inv X pins σ H s) : interactive X.env = false := by simp [interactive, I.ok.kind]
end
noncomputable abbrev TG := V -> St -> Hp -> (St -> Hp -> Prop) -> Prop
noncomputable abbrev TGs := List V -> St -> Hp -> (St -> Hp -> Prop) -> Prop
noncomputable def PG (X : Cx) (target : Expr) (t : TG) : Prop :=
  ∀ (pins : List (Addr × Obj)) (s : Shared) (σ : St) (H : Hp) (v : V) (u : Value) (Q : St -> Hp -> Prop), Inv X pins σ H s -> RelV v u -> t v σ H Q ->
    wpAny (model X.prog X.w) X.A (assign target X.env u) (fun _ s' => ∃ σ' H', Inv X pins σ' H' s' /\ Q σ' H') X.xe s
section
variable {X : Cx} {pos : Pos}
noncomputable def y1w (i : Nat) : TG := fun v σ H Q => Q (σ.set i (some v)) H
theorem z8w {i : Nat} {x : Str} (hN : X.N.Nodup) (hi : X.N[i]? = some x) (hx : Loc X.env.scope x) (hf : X.fn x = true ∨ X.env.scope.names.lookup x = some .local := by first | exact .inl rfl | exact .inr rfl | assumption) : PG X (.Name x pos) (y1w i) := by
  intro pins s σ H v u Q I r h
  exact wpAny_assign_Name (z2x I hN hi hx r (fun s' I' => ⟨_, H, I', h⟩) hf)
noncomputable def gNil : TGs := fun vs σ H Q => vs = [] /\ Q σ H
noncomputable def gCons (t : TG) (u : TGs) : TGs := fun vs σ H Q => ∃ v r, vs = v :: r /\ t v σ H fun σ' H' => u r σ' H' Q
end
section
variable {X : Cx} {pos : Pos}
end
structure It where
  go : Nat -> Hp -> Prop
  yld : Nat -> Hp -> V -> Hp -> Prop
  stop : Nat -> Hp -> Prop
noncomputable def FpOk (X : Cx) (pins : List (Addr × Obj)) (H : Hp) (b : Addr) : Prop :=
  H b = none /\ b ≠ X.env.locals /\ b ∉ X.fs /\ (b ∈ X.ex ∨ X.s₀.heap.objs.size <= b) /\ (∀ x c, X.env.cells.lookup x = some c -> c ≠ b) /\ ∀ p ∈ X.pn ++ pins, p.1 ≠ b
theorem Inv.fpOk {X : Cx} {pins : List (Addr × Obj)} {σ : St} {H H' : Hp} {s : Shared} {b : Addr} (I : Inv X pins σ H s) (hb : s.heap.objs.size <= b) (hn : H' b = none) : FpOk X pins H' b := by
  refine ⟨hn, Nat.ne_of_gt (Nat.lt_of_lt_of_le I.lt hb), I.nofs hb, .inr (Nat.le_trans I.sz hb), fun x c e z => ?_, fun p hp z => ?_⟩
  · obtain ⟨v, q⟩ := I.cell x c e
    exact absurd (Nat.lt_of_lt_of_le q.lt (by rw [z]; exact hb)) (Nat.lt_irrefl _)
  · exact absurd (Nat.lt_of_lt_of_le (Heap.lt_size (I.pin p hp).1) (by rw [z]; exact hb)) (Nat.lt_irrefl _)
structure Turn (P : Program) (w : World) (K : PySem.W.Frag) (tg : Expr) (J : It) (fp : List Addr) (it : Addr) (tn : Nat -> Heap -> Prop) : Prop where
  mem : it ∈ fp
  obj : ∀ i h, tn i h -> ∀ b ∈ fp, ∃ o, h.get? b = some o /\ ∀ v, o.data ≠ .cell v
  keep : ∀ i h h', tn i h -> (∀ b ∈ fp, ∀ o, h.get? b = some o -> h'.get? b = some o) -> tn i h'
  item : ∀ (X : Cx), X.prog = P -> X.w = w -> X.K = K -> X.calm = true -> ∀ (i : Nat) (pins : List (Addr × Obj)) (s : Shared) (σ : St) (H : Hp) (E : Value -> Shared -> Prop), Inv X pins σ H s -> (∀ b ∈ fp, FpOk X pins H b) -> tn i s.heap -> J.go i H ->
    wpAny (model P w) X.A (pyNext (.ref it)) (fun r s1 => ∃ u, r = some u /\
      wpAny (model P w) X.A (letOwnedTupleGo tg (.ref it) u) (fun _ s2 => ∃ x H', Inv X pins σ H' s2 /\ RelV x u /\ J.yld i H x H' /\ tn (i + 1) s2.heap /\ ∀ b ∈ fp, H' b = none) E s1) E s
  done : ∀ (X : Cx), X.prog = P -> X.w = w -> X.K = K -> X.calm = true -> ∀ (i : Nat) (pins : List (Addr × Obj)) (s : Shared) (σ : St) (H : Hp) (E : Value -> Shared -> Prop), Inv X pins σ H s -> (∀ b ∈ fp, FpOk X pins H b) -> tn i s.heap -> J.stop i H ->
    wpAny (model P w) X.A (pyNext (.ref it)) (fun r s1 => r = none /\ Inv X pins σ H s1) E s
  self : ∀ (A : Around) (i : Nat) (s : Shared) (Q : Value -> Shared -> Prop) (E : Value -> Shared -> Prop), tn i s.heap -> Q (.ref it) s -> wpAny (model P w) A (pyIter (.ref it)) Q E s
theorem y1v {M : Model} {A : Around} {E : Value -> Shared -> Prop} {s : Shared} {tg : Expr} {it : Addr} {u : Value} {o : Obj} {n : String} {vs : Array Value} {Q : Unit -> Shared -> Prop} (ho : s.heap.get? it = some o) (hc : o.cls = .type n) (hd : o.data = .fields vs)
    (hn : ["enumerate", "zip", "dict_itemiterator", "dict_reverseitemiterator", "odict_iterator", "itertools.zip_longest", "itertools.pairwise"].contains n = false) (hQ : Q () s) : wpAny M A (letOwnedTupleGo tg (.ref it) u) Q E s := by
  unfold letOwnedTupleGo
  cases tg <;> first
    | exact wpAny_pure hQ
    | (cases u <;> first
        | exact wpAny_pure hQ
        | (refine wpAny_bind (wpAny_load ho ?_)
           rw [hc, hd]
           show wpAny M A (if (["enumerate", "zip", "dict_itemiterator", "dict_reverseitemiterator", "odict_iterator", "itertools.zip_longest", "itertools.pairwise"].contains n && vs[0]? == some (rawInt _)) = true then _ else _) Q E s
           rw [if_neg (by intro h; rw [hn, Bool.false_and] at h; cases h)]
           exact wpAny_pure hQ))
noncomputable def Itl (K : PySem.W.Frag) (a : Addr) : It :=
  ⟨fun i H => ∃ xs x, SqL K H a xs /\ xs[i]? = some x, fun i H x H' => H' = H /\ ∀ xs, SqL K H a xs -> xs[i]? = some x, fun i H => ∃ xs, SqL K H a xs /\ xs.length <= i⟩
noncomputable def Itt (K : PySem.W.Frag) (a : Addr) : It :=
  ⟨fun i H => ∃ xs x, SqT K H a xs /\ xs[i]? = some x, fun i H x H' => H' = H /\ ∀ xs, SqT K H a xs -> xs[i]? = some x, fun i H => ∃ xs, SqT K H a xs /\ xs.length <= i⟩
theorem z5r {P : Program} {w : World} {K : PySem.W.Frag} {tg : Expr} (a it : Addr) : Turn P w K tg (Itl K a) [it] it (fun i h => h.IsListIter it a i) where
  mem := by simp
  obj := fun i h st b hb => by
    have e : b = it := by simpa using hb
    subst e
    obtain ⟨o, e, c, d⟩ := st
    exact ⟨o, e, fun v z => by rw [d] at z; cases z⟩
  keep := fun i h h' st k => st.at fun o e => k it (by simp) o e
  item := by
    intro X hP hw hK hc i pins s σ H E I hf st hg
    subst hP hw hK
    obtain ⟨xs, x, hq, hx⟩ := hg
    obtain ⟨its, rv, p, hz⟩ := I.list hq
    obtain ⟨u, hu, ru⟩ := rv.get hx
    obtain ⟨f0, f1, f2, f3, f4, f5⟩ := hf it (by simp)
    refine wpAny_pyNext_list_item st p.isList (x := u) (by simpa using hu) fun h' st' sb => ?_
    have I1 : Inv X pins σ H { s with heap := h' } := I.turned (t' := s.toks) (fun b o hb e => (sb.2 b hb).trans e) f0 f1 f3 f4 f5
    obtain ⟨o, e, c, d⟩ := id st'
    exact ⟨u, rfl, y1v (s := { s with heap := h' }) e c d (by decide) ⟨x, H, I1, ru, ⟨rfl, fun ys hy => by rw [I.list_inj hy hq]; exact hx⟩, st', fun b hb => (hf b hb).1⟩⟩
  done := by
    intro X hP hw hK hc i pins s σ H E I hf st hg
    subst hP hw hK
    obtain ⟨xs, hq, hx⟩ := hg
    obtain ⟨its, rv, p, hz⟩ := I.list hq
    obtain ⟨f0, f1, f2, f3, f4, f5⟩ := hf it (by simp)
    have hl := rv.length
    exact wpAny_pyNext_list_end (I.ok.hd hc) st p.isList (by simp; omega) fun h' eb => ⟨rfl, I.turned (t' := s.toks) (fun b o hb e => eb b o hb e) f0 f1 f3 f4 f5⟩
  self := fun _ _ _ _ _ st h => wpAny_pyIter_listiter st h
theorem z5g {P : Program} {w : World} {K : PySem.W.Frag} {tg : Expr} (a it : Addr) : Turn P w K tg (Itt K a) [it] it (fun i h => h.IsTupleIter it a i) where
  mem := by simp
  obj := fun i h st b hb => by
    have e : b = it := by simpa using hb
    subst e
    obtain ⟨o, e, c, d⟩ := st
    exact ⟨o, e, fun v z => by rw [d] at z; cases z⟩
  keep := fun i h h' st k => st.at fun o e => k it (by simp) o e
  item := by
    intro X hP hw hK hc i pins s σ H E I hf st hg
    subst hP hw hK
    obtain ⟨xs, x, hq, hx⟩ := hg
    obtain ⟨its, rv, p, hz⟩ := I.tuple hq
    obtain ⟨u, hu, ru⟩ := rv.get hx
    obtain ⟨f0, f1, f2, f3, f4, f5⟩ := hf it (by simp)
    refine wpAny_pyNext_tuple_item st (show s.heap.IsTuple a its.toArray from p) (x := u) (by simpa using hu) fun h' st' sb => ?_
    have I1 : Inv X pins σ H { s with heap := h' } := I.turned (t' := s.toks) (fun b o hb e => (sb.2 b hb).trans e) f0 f1 f3 f4 f5
    obtain ⟨o, e, c, d⟩ := id st'
    exact ⟨u, rfl, y1v (s := { s with heap := h' }) e c d (by decide) ⟨x, H, I1, ru, ⟨rfl, fun ys hy => by rw [I.tuple_inj hy hq]; exact hx⟩, st', fun b hb => (hf b hb).1⟩⟩
  done := by
    intro X hP hw hK hc i pins s σ H E I hf st hg
    subst hP hw hK
    obtain ⟨xs, hq, hx⟩ := hg
    obtain ⟨its, rv, p, hz⟩ := I.tuple hq
    obtain ⟨f0, f1, f2, f3, f4, f5⟩ := hf it (by simp)
    have hl := rv.length
    exact wpAny_pyNext_tuple_end (I.ok.hd hc) st (show s.heap.IsTuple a its.toArray from p) (by simp; omega) fun h' eb => ⟨rfl, I.turned (t' := s.toks) (fun b o hb e => eb b o hb e) f0 f1 f3 f4 f5⟩
  self := fun _ _ _ _ _ st h => wpAny_pyIter_tupleiter st h
end L2
namespace L2
open PySem PySem.Spec PyProof.Rows
section
variable {X : Cx} {tg : Expr}
noncomputable def z4p (fp : List Addr) (h : Heap) : List (Addr × Obj) := fp.filterMap fun b => (h.get? b).map fun o => (b, o)
theorem z2s {fp : List Addr} {h : Heap} {b : Addr} {o : Obj} (hb : b ∈ fp) (e : h.get? b = some o) : (b, o) ∈ z4p fp h := List.mem_filterMap.mpr ⟨b, hb, by rw [e]; rfl⟩
theorem z6d {fp : List Addr} {h : Heap} {p : Addr × Obj} (hp : p ∈ z4p fp h) : p.1 ∈ fp /\ h.get? p.1 = some p.2 := by
  obtain ⟨b, hb, e⟩ := List.mem_filterMap.mp hp
  cases q : h.get? b with
  | none => rw [q] at e; cases e
  | some o =>
    rw [q] at e
    have e' : (b, o) = p := Option.some.inj e
    subst e'
    exact ⟨hb, q⟩
theorem Inv.pinned {pins : List (Addr × Obj)} {σ : St} {H : Hp} {s : Shared} {fp : List Addr} (I : Inv X pins σ H s) (hf : ∀ b ∈ fp, FpOk X pins H b) (ho : ∀ b ∈ fp, ∃ o, s.heap.get? b = some o /\ ∀ v, o.data ≠ .cell v) : Inv X (pins ++ z4p fp s.heap) σ H s :=
  I.pins_of fun p hp => (List.mem_append.mp hp).elim (fun z => I.pin p (List.mem_append_right _ z)) fun z => by
    obtain ⟨hb, e⟩ := z6d z
    obtain ⟨f0, f1, f2, _⟩ := hf p.1 hb
    obtain ⟨o, e', d⟩ := ho p.1 hb
    rw [e] at e'; cases e'
    exact ⟨e, f0, f1, f2, d⟩
theorem Inv.unpinned {pins pl : List (Addr × Obj)} {σ : St} {H : Hp} {s : Shared} (I : Inv X (pins ++ pl) σ H s) : Inv X pins σ H s := I.pins_of fun p hp => I.pin p (List.mem_append_right _ (List.mem_append_left _ hp))
end
end L2
namespace L2
open PySem PySem.Spec PyProof.Rows
noncomputable abbrev R2 := V -> V -> Hp -> VK -> Prop
noncomputable def OpR (X : Cx) (f : Value -> Value -> Sem Value) (r : R2) : Prop :=
  ∀ (pins : List (Addr × Obj)) (s : Shared) (σ : St) (H : Hp) (x y : V) (v u : Value) (Q : VK), Inv X pins σ H s -> RelV x v -> RelV y u -> r x y H Q ->
    wpAny (model X.prog X.w) X.A (f v u) (EP X pins σ Q) X.xe s
noncomputable def z5p (X : Cx) (f : Value) (r : List V -> Hp -> VK -> Prop) : Prop :=
  ∀ (pins : List (Addr × Obj)) (s : Shared) (σ : St) (H : Hp) (xs : List V) (us : List Value) (Q : VK), Inv X pins σ H s -> Vals xs us -> r xs H Q ->
    wpAny (model X.prog X.w) X.A (call f us) (EP X pins σ Q) X.xe s
noncomputable def rI (C : Int -> Int -> Prop) (g : Int -> Int -> V) : R2 := fun x y H Q => ∃ i j, x = .int i /\ y = .int j /\ C i j /\ Q (g i j) H
noncomputable def rI0 (g : Int -> Int -> V) : R2 := fun x y H Q => ∃ i j, x = .int i /\ y = .int j /\ Q (g i j) H
section
variable {X : Cx} {a b c : Expr} {ta tb tc : TE} {pos : Pos}
theorem opI {f : Value -> Value -> Sem Value} {C : Int -> Int -> Prop} {g : Int -> Int -> Int}
    (rule : ∀ (i j : Int) (t u : Tok) (s : Shared) (Q : Value -> Shared -> Prop) (E : Value -> Shared -> Prop), C i j -> Q (.int (g i j) s.toks) { s with toks := s.toks + 1 } -> wpAny (model X.prog X.w) X.A (f (.int i t) (.int j u)) Q E s) :
    OpR X f (rI C fun i j => .int (g i j)) := by
  intro pins s σ H x y v u Q I rx ry h
  obtain ⟨i, j, rfl, rfl, hc, q⟩ := h
  obtain ⟨t, rfl⟩ := rx
  obtain ⟨t', rfl⟩ := ry
  exact rule i j t t' s _ _ hc ⟨.int (g i j), H, I.tok _, ⟨_, rfl⟩, q⟩
theorem opI0 {f : Value -> Value -> Sem Value} {g : Int -> Int -> Int}
    (rule : ∀ (i j : Int) (t u : Tok) (s : Shared) (Q : Value -> Shared -> Prop) (E : Value -> Shared -> Prop), Q (.int (g i j) s.toks) { s with toks := s.toks + 1 } -> wpAny (model X.prog X.w) X.A (f (.int i t) (.int j u)) Q E s) :
    OpR X f (rI0 fun i j => .int (g i j)) := by
  intro pins s σ H x y v u Q I rx ry h
  obtain ⟨i, j, rfl, rfl, q⟩ := h
  obtain ⟨t, rfl⟩ := rx
  obtain ⟨t', rfl⟩ := ry
  exact rule i j t t' s _ _ ⟨.int (g i j), H, I.tok _, ⟨_, rfl⟩, q⟩
theorem opB0 {f : Value -> Value -> Sem Value} {g : Int -> Int -> Bool}
    (rule : ∀ (i j : Int) (t u : Tok) (s : Shared) (Q : Value -> Shared -> Prop) (E : Value -> Shared -> Prop), Q (.bool (g i j)) s -> wpAny (model X.prog X.w) X.A (f (.int i t) (.int j u)) Q E s) :
    OpR X f (rI0 fun i j => .bl (g i j)) := by
  intro pins s σ H x y v u Q I rx ry h
  obtain ⟨i, j, rfl, rfl, q⟩ := h
  obtain ⟨t, rfl⟩ := rx
  obtain ⟨t', rfl⟩ := ry
  exact rule i j t t' s _ _ ⟨.bl (g i j), H, I, rfl, q⟩
noncomputable def CDiv (i j : Int) : Prop := 0 < j /\ j < 1073741824
noncomputable def CPow (i j : Int) : Prop := 0 <= j /\ j <= 1000000 /\ i.natAbs < 2 ^ 64
noncomputable def CMul (i j : Int) : Prop := (-(2 ^ 64) < i /\ i < 2 ^ 64) ∨ (-(2 ^ 64) < j /\ j < 2 ^ 64)
theorem CMul.ok {i j : Int} (h : CMul i j) : IntMulOk i j := by
  rcases h with ⟨h1, h2⟩ | ⟨h1, h2⟩
  · exact .of_left (intBits_le_64 h1 h2)
  · exact .of_right (intBits_le_64 h1 h2)
theorem y0w : OpR X (binaryOp .Add) (rI0 fun i j => .int (i + j)) := opI0 fun _ _ _ _ _ _ _ q => add_int q
theorem y0u : OpR X (binaryOp .Mult) (rI CMul fun i j => .int (i * j)) := opI fun _ _ _ _ _ _ _ hc q => mul_int q hc.ok
theorem z9a : OpR X (binaryOp .FloorDiv) (rI CDiv fun i j => .int (i / j)) := opI fun i j _ _ _ _ _ hc q => by
  have h1 : (0 : Int) < j := hc.1
  have h2 : j < 1073741824 := hc.2
  exact floordiv_int (by omega) (by rw [Int.fdiv_eq_ediv_of_nonneg i (by omega)]; exact q) (.inl (PyProof.noPylong_small (by omega)))
theorem y0v : OpR X (binaryOp .Mod) (rI (fun _ j => 0 < j) fun i j => .int (i % j)) := opI fun i j _ _ _ _ _ hc q => by
  have h1 : (0 : Int) < j := hc
  exact mod_int' (by omega) (by rw [Int.fmod_eq_emod_of_nonneg i (by omega)]; exact q)
theorem y0t : OpR X (binaryOp .Pow) (rI CPow fun i j => .int (i ^ j.toNat)) := opI fun _ _ _ _ _ _ _ hc q => pow_int_small hc.1 hc.2.1 hc.2.2 q
end
section
variable {X : Cx} {a b c : Expr} {ta tb tc : TE} {pos : Pos}
theorem y2k : OpR X (compareOp .Lt) (rI0 fun i j => .bl (decide (i < j))) := opB0 fun _ _ _ _ _ _ _ q => lt_int q
theorem y2l : OpR X (compareOp .LtE) (rI0 fun i j => .bl (decide (i <= j))) := opB0 fun _ _ _ _ _ _ _ q => le_int q
theorem y2m : OpR X (compareOp .Gt) (rI0 fun i j => .bl (decide (j < i))) := opB0 fun _ _ _ _ _ _ _ q => gt_int q
theorem OpR.or {f : Value -> Value -> Sem Value} {r r' : R2} (h : OpR X f r) (h' : OpR X f r') : OpR X f (fun x y H Q => r x y H Q ∨ r' x y H Q) := by
  intro pins s σ H x y v u Q I rx ry q
  rcases q with q | q
  · exact h pins s σ H x y v u Q I rx ry q
  · exact h' pins s σ H x y v u Q I rx ry q
theorem z0y (b : Expr) {op : CmpOp} (h : op ≠ .In := by decide) (h2 : op ≠ .NotIn := by decide) : behindInMarks op b = false := by
  have e1 : (op == CmpOp.In) = false := by cases op <;> first | rfl | exact absurd rfl h
  have e2 : (op == CmpOp.NotIn) = false := by cases op <;> first | rfl | exact absurd rfl h2
  cases b <;> simp [behindInMarks, e1, e2]
theorem z6l : (sizeLine : Nat) < 2 ^ 63 := by rw [sizeLine_eq]; decide
theorem y2d {x : V} {us : List Value} (r : Vals [x] us) : ∃ u, us = [u] /\ RelV x u := by
  cases r with
  | cons r1 r2 => cases r2; exact ⟨_, rfl, r1⟩
end
end L2
namespace L2
open PySem PySem.Spec PyProof.Rows
structure ObjM (h : Heap) (x dx C : Addr) (mA : Str -> Option Value) : Prop where
  obj : h.get? x = some (PySem.W.instObj C dx)
  ns : h.Ns1 dx mA
  ne : dx ≠ x
theorem z6j {h : Heap} {dx : Addr} {mA : Str -> Option Value} (n : h.Ns1 dx mA) : ∃ od, h.get? dx = some od /\ ∀ name, PySem.W.lookIn name od = some (mA name) := by
  obtain ⟨o, es, ep, ho, hd, hk, _, hm⟩ := n
  refine ⟨o, ho, fun name => ?_⟩
  have e := hm name
  unfold nsFind findBy at e
  rw [<- Array.find?_toList] at e
  unfold PySem.W.lookIn
  rw [hd]
  dsimp only
  split
  · rename_i y q
    rw [q] at e
    exact congrArg some e
  · rename_i q
    rw [q] at e
    have a : es.toList.any (·.refKey) = false := by
      rw [List.any_eq_false]
      intro y hy
      obtain ⟨z, t, hkey⟩ := hk y (Array.mem_toList_iff.mp hy)
      simp [DictEntry.refKey, hkey]
    have a' : ¬ es.toList.any (·.refKey) = true := by rw [a]; exact Bool.false_ne_true
    rw [if_neg a']
    exact congrArg some e
theorem ObjM.look {h : Heap} {x dx C : Addr} {mA : Str -> Option Value} (I : ObjM h x dx C mA) : ∃ od, PySem.W.InstAt h x (PySem.W.instObj C dx) C (some od) /\ ∀ name, PySem.W.lookIn name od = some (mA name) :=
  let ⟨od, ho, hl⟩ := z6j I.ns
  ⟨od, ⟨I.obj, rfl, rfl, ho⟩, hl⟩
section
variable {prog : Program} {w : World} {A : Around} {E : Value -> Shared -> Prop} {s : Shared} {K : PySem.W.Frag} {x dx C f : Addr} {mA : Str -> Option Value} {name : Str} {v : Value}
end
section
variable {P : Program} {w : World} {H H' : Hp} {h h' : Heap} {a C dx : Addr} {fs fs' : List (Str × V)}
end
structure Cls (K : PySem.W.Frag) (C : Addr) : Prop where
  pg : PySem.W.plainGet K C Str.empty = true
  hd : PySem.W.hasDictIn K C = true
  po : PySem.W.plainOver K C = true
  sa : PySem.W.findIn K (.ref C) "__setattr__" = some (some (.builtin "object.__setattr__"))
theorem Cls.get {K : PySem.W.Frag} {C : Addr} (c : Cls K C) (f : Str) : PySem.W.plainGet K C f = true := c.pg
structure Con (K : PySem.W.Frag) (C : Addr) (f : Str) (v : V) (u : Value) : Prop where
  at_ : PySem.W.findIn K (.ref C) f = some (some u)
  rel : RelV v u
  get : PySem.W.specialIn K u "__get__" = some none
  cp : PySem.W.copiedNames.contains f = false
structure Meth (K : PySem.W.Frag) (C : Addr) (m : Str) (f : Addr) : Prop where
  at_ : PySem.W.findIn K (.ref C) m = some (some (.ref f))
  fn : PySem.W.isFn K (.ref f) = true
  kp : PySem.W.keepIn K (.ref f) = true
section
variable {X : Cx} {pins : List (Addr × Obj)} {σ : St} {H : Hp} {s : Shared} {a C dx : Addr} {fs : List (Str × V)} {f : Str} {v : V} {A : Around} {E : Value -> Shared -> Prop}
end
section
variable {X : Cx} {o e value : Expr} {f : Str} {pos pos' tpos : Pos} {ta tv : TE}
end
section
variable {X : Cx} {pins : List (Addr × Obj)} {σ : St} {H : Hp} {s : Shared} {A : Around} {E : Value -> Shared -> Prop} {Q : Value -> Shared -> Prop} {c : Value} {b : Bool}
inductive TyOf (K : PySem.W.Frag) (H : Hp) : V -> Value -> Prop where
  | non : TyOf K H .non (.type "NoneType")
  | bl (x : Bool) : TyOf K H (.bl x) (.type "bool")
  | int (i : Int) : TyOf K H (.int i) (.type "int")
  | str (x : Str) : TyOf K H (.str x) (.type "str")
  | flt (x : UInt64) : TyOf K H (.flt x) (.type "float")
  | lst {a : Addr} {xs : List V} (e : H a = some (.lst xs)) : TyOf K H (.ref a) (.type "list")
  | frz {a : Addr} {o : Obj} {xs : List V} (e : H a = some (.frz o (.lst xs))) : TyOf K H (.ref a) (.type "list")
  | tup {a : Addr} {xs : List V} (e : H a = some (.tup xs)) : TyOf K H (.ref a) (.type "tuple")
  | dK {a : Addr} {kvs : List (Key × V)} (e : H a = some (.dK kvs)) : TyOf K H (.ref a) (.type "dict")
  | dT {a : Addr} {kvs : List (List Key × V)} (e : H a = some (.dT kvs)) : TyOf K H (.ref a) (.type "dict")
  | ins {a C dx : Addr} {fs : List (Str × V)} (e : H a = some (.ins C dx fs)) (cl : Cls K C) (ha : PySem.W.findIn K (.ref C) "__class__" = some (some (.builtin "object.__class__")))
      (hn : PySem.W.specialIn K (.builtin "object.__class__") "__get__" = some (some (.builtin "getset_descriptor.__get__"))) (htk : PySem.W.takesIn K (.builtin "object.__class__") = some true)
      (hm : PySem.W.mroIn K C (.type "object") = some true) : TyOf K H (.ref a) (.ref C)
end
end L2
namespace L2
open PySem PySem.Spec PyProof.Rows
structure Room (k : Nat) (A : Around) : Prop where
  hd : A.handled = none
  dp : A.depth + 3 * k + 5 < recursionLimit
  un : A.units + 16 * k + 200 < cLine
theorem Room.mono {j k : Nat} {A : Around} (r : Room k A) (h : j <= k) : Room j A := ⟨r.hd, by have := r.dp; omega, by have := r.un; omega⟩
theorem Room.deeper {k : Nat} {A : Around} (r : Room (k + 1) A) (env : Env) : Room k (A.deeper env) :=
  ⟨r.hd, by have := r.dp; show A.depth + 1 + 3 * k + 5 < _; omega, by have := r.un; show A.units + 3 + 16 * k + 200 < _; omega⟩
theorem Room.depth {k : Nat} {A : Around} (r : Room k A) : A.depth < recursionLimit := by have := r.dp; omega
theorem Room.units {k : Nat} {A : Around} (r : Room k A) : A.units + 64 < cLine := by have := r.un; omega
section
variable {X : Cx} {e : Expr} {es : List Expr} {te : TE} {t : TA} {pos : Pos}
end
noncomputable abbrev Sp := List V -> Hp -> VK -> XK -> Prop
noncomputable abbrev CXT := List Env -> Hp -> Shared -> XK -> Value -> Shared -> Prop
structure Env0 (P : Program) (w : World) (K : PySem.W.Frag) (mg : Str -> Option Value) (base : Heap) (A : Around) (outer : List Env) (s : Shared) (H : Hp) : Prop where
  frames : A.frames = some outer
  mod : Mod K mg base
  bs : ∀ b o, base.get? b = some o -> s.heap.get? b = some o /\ H b = none
  bsz : base.objs.size <= s.heap.objs.size
  funs : s.heap.FunFrames base outer
  frf : ∀ b ∈ frs outer, H b = none
  hok : HOk P w H s.heap
  bare : AllBare s.gens
noncomputable def CE (outer : List Env) (P : Program) (w : World) (H : Hp) (s : Shared) (Q : VK) (u : Value) (s' : Shared) : Prop :=
  ∃ v H', s'.os = s.os /\ AllBare s'.gens /\ Un (frs outer) [] H H' s.heap s'.heap /\ HOk P w H' s'.heap /\ RelV v u /\ Q v H'
noncomputable def CR (CX : CXT) (outer : List Env) (P : Program) (w : World) (H : Hp) (s : Shared) (Q : VK) (E : XK) (r : Result) (s' : Shared) : Prop :=
  match r with
  | .ok (.ret u) => CE outer P w H s Q u s'
  | .ok _ => False
  | .error e => CX outer H s E e s'
structure FnOk (P : Program) (w : World) (K : PySem.W.Frag) (mg : Str -> Option Value) (base : Heap) (CX : CXT) (k : Nat) (f : Addr) (fd : FuncData) (ps : List Str) (sp : Sp) : Prop where
  len : ∀ vs H Q E, sp vs H Q E -> vs.length = ps.length
  run : ∀ (A : Around) (outer : List Env) (s : Shared) (H : Hp) (args : Args) (us : List Value) (vs : List V) (Q : VK) (E : XK), Room k A -> Env0 P w K mg base A outer s H -> BindsTo s fd args (ps.zip us) -> Vals vs us -> sp vs H Q E ->
    codeAny (model P w) A (.call (.ref f) args) (CR CX outer P w H s Q E) s
theorem FnOk.mono {P : Program} {w : World} {K : PySem.W.Frag} {mg : Str -> Option Value} {base : Heap} {CX : CXT} {j k : Nat} {f : Addr} {fd : FuncData} {ps : List Str} {sp : Sp} (F : FnOk P w K mg base CX j f fd ps sp) (h : j <= k) :
    FnOk P w K mg base CX k f fd ps sp := ⟨F.len, fun A outer s H args us vs Q E hr => F.run A outer s H args us vs Q E (hr.mono h)⟩
theorem FnOk.imp {P : Program} {w : World} {K : PySem.W.Frag} {mg : Str -> Option Value} {base : Heap} {CX : CXT} {k : Nat} {f : Addr} {fd : FuncData} {ps : List Str} {sp sp' : Sp} (F : FnOk P w K mg base CX k f fd ps sp)
    (h : ∀ vs H Q E, sp' vs H Q E -> sp vs H Q E) : FnOk P w K mg base CX k f fd ps sp' :=
  ⟨fun vs H Q E q => F.len vs H Q E (h _ _ _ _ q), fun A outer s H args us vs Q E hr he hb hv hs => F.run A outer s H args us vs Q E hr he hb hv (h _ _ _ _ hs)⟩
section
variable {X : Cx} {pins : List (Addr × Obj)} {σ : St} {H : Hp} {s s' : Shared}
theorem Inv.env0 (I : Inv X pins σ H s) : Env0 X.prog X.w X.K X.mg X.base X.A X.stack s H :=
  ⟨I.ok.frames, I.ok.mod, I.bs, Nat.le_trans I.ok.bsz I.sz, I.stack, I.stkFree, I.hok, I.bare⟩
theorem Inv.after {Q : VK} {u : Value} (I : Inv X pins σ H s) (h : CE X.stack X.prog X.w H s Q u s') : EP X pins σ Q u s' := by
  obtain ⟨v, H', os, bare, un, hok, r, q⟩ := h
  obtain ⟨hh, g, d, t, os'⟩ := s'
  obtain rfl : os' = s.os := os
  exact ⟨v, H', I.call (h' := hh) (g' := g) (d' := d) (t' := t) (ch := []) un hok bare (fun b z => absurd z (by simp)), r, q⟩
end
noncomputable def z1l (K : PySem.W.Frag) (fd : FuncData) (ps : List Str) (ds : List Value) : Prop :=
  ∀ (s : Shared) (us : List Value), K.In s.heap -> (us ++ ds).length = ps.length -> BindsTo s fd ⟨us, []⟩ (ps.zip (us ++ ds))
theorem z1l.all {K : PySem.W.Frag} {fd : FuncData} {ps : List Str} (h : ∀ us : List Value, us.length = ps.length -> bindArgs fd ⟨us, []⟩ = pure (ps.zip us)) : z1l K fd ps [] := fun s us _ hl => by
  rw [List.append_nil] at hl ⊢
  exact .of_eq (h us hl)
section
variable {X : Cx} {CX : CXT} {k : Nat} {f C : Addr} {fd : FuncData} {ps : List Str} {sp : Sp} {dvs : List V} {ds : List Value} {E : XK} {x m : Str} {p pos apos : Pos} {e o : Expr} {es : List Expr} {ta : TE} {t : TA}
structure Mk (K : PySem.W.Frag) (C f : Addr) : Prop where
  makes : PySem.W.makesIn K C = true
  init : PySem.W.findIn K (.ref C) "__init__" = some (some (.ref f))
  fn : PySem.W.isFn K (.ref f) = true
  kp : PySem.W.keepIn K (.ref C) = true
end
section
variable {X : Cx} {CX : CXT} {k : Nat} {f C : Addr} {fd : FuncData} {ps ks : List Str} {sp : Sp} {E : XK} {x m : Str} {p pos apos kpos : Pos} {e o : Expr} {es : List Expr} {kws : List Keyword} {te ta : TE} {t tk : TA} {nm : Option Str}
structure KBinds (K : PySem.W.Frag) (fd : FuncData) (ps ks : List Str) (g : List Value -> List Value -> List Value) (gV : List V -> List V -> List V) : Prop where
  to : ∀ (s : Shared) (us ws : List Value), K.In s.heap -> (g us ws).length = ps.length -> BindsTo s fd ⟨us, ks.zip ws⟩ (ps.zip (g us ws))
  rel : ∀ {vs : List V} {us : List Value} {zs : List V} {ws : List Value}, Vals vs us -> Vals zs ws -> Vals (gV vs zs) (g us ws)
variable {g : List Value -> List Value -> List Value} {gV : List V -> List V -> List V}
end
structure FnScope (N P : List Str) (sc : Scope) : Prop where
  kind : sc.kind = .function
  co : sc.isCoroutine = false
  gen : sc.isGenerator = false
  nd : N.Nodup
  pre : N.take P.length = P
  par : ∀ x ∈ P, sc.names.lookup x = some .local ∨ sc.names.lookup x = some .cell
  nofree : ∀ y ∈ sc.names, y.2 ≠ .free
theorem z3z {kindOf : Str -> Option NameKind} {x : Str} : ∀ {binds : List (Str × Value)} {m : Str -> Option Value}, (∀ v, (x, v) ∉ binds) -> bindL kindOf binds m x = m x
  | [], _, _ => rfl
  | (n, v) :: r, m, h => by
    unfold bindL
    rw [z3z fun w hw => h w (List.mem_cons_of_mem _ hw)]
    split
    · have : x ≠ n := by rintro rfl; exact h v List.mem_cons_self
      simp [this]
    · rfl
theorem z4b {kindOf : Str -> Option NameKind} {x : Str} : ∀ {binds : List (Str × Value)} {m : Str -> Option Value}, (∀ v, (x, v) ∉ binds) -> bindC kindOf binds m x = m x
  | [], _, _ => rfl
  | (n, v) :: r, m, h => by
    unfold bindC
    rw [z4b fun w hw => h w (List.mem_cons_of_mem _ hw)]
    split
    · rfl
    · have : x ≠ n := by rintro rfl; exact h v List.mem_cons_self
      simp [this]
theorem z4a {kindOf : Str -> Option NameKind} {x : Str} {v : Value} : ∀ {P : List Str} {vs : List Value} {i : Nat} {m : Str -> Option Value}, P.Nodup -> P[i]? = some x -> vs[i]? = some v -> kindOf x = some .local ->
    bindL kindOf (P.zip vs) m x = some v
  | [], _, _, _, _, h, _, _ => by simp at h
  | _ :: _, [], _, _, _, _, h, _ => by simp at h
  | p :: P, w :: vs, 0, m, nd, h1, h2, hk => by
    simp at h1 h2; subst h1; subst h2
    show bindL kindOf ((p, w) :: P.zip vs) m p = _
    unfold bindL
    rw [z3z fun v hv => (List.nodup_cons.mp nd).1 (List.of_mem_zip hv).1, if_pos hk]
    simp
  | p :: P, w :: vs, i + 1, m, nd, h1, h2, hk => by
    show bindL kindOf ((p, w) :: P.zip vs) m x = _
    unfold bindL
    exact z4a (i := i) (List.nodup_cons.mp nd).2 (by simpa using h1) (by simpa using h2) hk
theorem z4c {kindOf : Str -> Option NameKind} {x : Str} {v : Value} : ∀ {P : List Str} {vs : List Value} {i : Nat} {m : Str -> Option Value}, P.Nodup -> P[i]? = some x -> vs[i]? = some v -> kindOf x ≠ some .local ->
    bindC kindOf (P.zip vs) m x = some v
  | [], _, _, _, _, h, _, _ => by simp at h
  | _ :: _, [], _, _, _, _, h, _ => by simp at h
  | p :: P, w :: vs, 0, m, nd, h1, h2, hk => by
    simp at h1 h2; subst h1; subst h2
    show bindC kindOf ((p, w) :: P.zip vs) m p = _
    unfold bindC
    rw [z4b fun v hv => (List.nodup_cons.mp nd).1 (List.of_mem_zip hv).1, if_neg hk]
    simp
  | p :: P, w :: vs, i + 1, m, nd, h1, h2, hk => by
    show bindC kindOf ((p, w) :: P.zip vs) m x = _
    unfold bindC
    exact z4c (i := i) (List.nodup_cons.mp nd).2 (by simpa using h1) (by simpa using h2) hk
noncomputable def start (N : List Str) (vs : List V) : St := vs.map some ++ List.replicate (N.length - vs.length) none
noncomputable def cxOf (CX : CXT) (P : Program) (w : World) (K : PySem.W.Frag) (mg : Str -> Option Value) (base : Heap) (N : List Str) (qual : Str) (scope : Scope) (f : Addr) (cd : Value) (A : Around) (outer : List Env) (s : Shared) (H : Hp) (E : XK) : Cx where
  prog := P
  w := w
  K := K
  mg := mg
  base := base
  A := A.deeper (envOfC qual scope s.heap.objs.size f cd)
  N := N
  s₀ := s
  H₀ := H
  env := envOfC qual scope s.heap.objs.size f cd
  outer := outer
  stack := envOfC qual scope s.heap.objs.size f cd :: outer
  ex := []
  calm := true
  fn := fun _ => true
  pn := []
  xe := fun e s' => wpAny (model P w) (A.deeper (envOfC qual scope s.heap.objs.size f cd)) (leaving (envOfC qual scope s.heap.objs.size f cd) e) (fun _ s'' => CX outer H s E e s'') (fun e' s'' => CX outer H s E e' s'') s'
theorem z5d {sc : Scope} {n : Nat} {x : Str} (h : sc.names.lookup x = some .cell) : ∃ c, (cellsFrom n sc.names []).lookup x = some c := by
  have q := PySem.W.cellsFrom_some sc.names n [] (.inl h)
  exact Option.isSome_iff_exists.mp q
theorem z6r {CX : CXT} {P : Program} {w : World} {K : PySem.W.Frag} {mg : Str -> Option Value} {base : Heap} {N ps : List Str} {qual : Str} {scope : Scope} {f : Addr} {cd : Value} {A : Around} {outer : List Env} {s s1 : Shared} {H : Hp} {E : XK} {us : List Value} {vs : List V}
    (S : FnScope N ps scope) (hd : A.handled = none) (e0 : Env0 P w K mg base A outer s H) (hl : vs.length = ps.length) (r : Vals vs us)
    (x : InCallC s s.heap.objs.size (bindL (envOfC qual scope s.heap.objs.size f cd).kindOf (ps.zip us) fun _ => none) (cellsFrom (s.heap.objs.size + 1) scope.names []) (bindC (envOfC qual scope s.heap.objs.size f cd).kindOf (ps.zip us) fun _ => none) s1) :
    Inv (cxOf CX P w K mg base N qual scope f cd A outer s H E) [] (start N vs) H s1 := by
  have hpl : ps.length <= N.length := by have := congrArg List.length S.pre; rw [List.length_take] at this; omega
  obtain ⟨h1, tk, rfl, hk⟩ := x.done
  have noA : ∀ b : Addr, b ∉ (cxOf CX P w K mg base N qual scope f cd A outer s H E).ex := fun b z => absurd (show b ∈ ([] : List Addr) from z) (by simp)
  refine ⟨⟨e0.mod, S.kind, rfl, rfl, Nat.le_refl _, fun y z c h1 h2 => ?_, fun y hy => ?_, fun y c _ h => ?_, fun _ => hd, Around.frames_deeper e0.frames, .inr ⟨rfl, rfl⟩, fun b z => absurd z (noA b), e0.bs, e0.bsz, fun b _ _ => noA b, fun b z => absurd z (noA b), e0.funs, e0.frf⟩,
    rfl, e0.bare, Un.kept hk, ⟨_, x.toInCall.ns, fun i y v h1 h2 h3 => ?_⟩, fun y c h => ⟨_, x.cell y c h⟩, e0.hok.fresh (Nat.le_refl _), fun y c h => ?_, fun p hp => absurd (show p ∈ ([] : List (Addr × Obj)) from hp) (by simp), e0.hok.kept hk, ?_⟩
  · exact name_of_addr x.apart (PySem.mem_of_lookup h1) (PySem.mem_of_lookup h2)
  · have hy : scope.names.lookup y = some .cell ∨ scope.names.lookup y = some .free := hy
    rcases hy with hy | hy
    · exact z5d hy
    · exact absurd rfl (S.nofree _ (PySem.mem_of_lookup hy))
  · exact Nat.le_of_lt (x.above y c (PySem.mem_of_lookup h))
  · have hi : i < vs.length := by
      unfold start at h2
      by_cases hi : i < vs.length
      · exact hi
      · rw [List.getElem?_append_right (by simpa using hi)] at h2
        rw [List.getElem?_replicate] at h2
        split at h2 <;> cases h2
    have ha : vs[i]? = some v := by
      unfold start at h2
      rw [List.getElem?_append_left (by simpa using hi), List.getElem?_map] at h2
      cases e : vs[i]? with
      | none => rw [e] at h2; cases h2
      | some a => rw [e] at h2; cases h2; rfl
    obtain ⟨u, hu, rv⟩ := r.get ha
    have hp : ps[i]? = some y := by
      rw [<- S.pre, List.getElem?_take_of_lt (by omega)]; exact h1
    have ndP : ps.Nodup := by rw [<- S.pre]; exact S.nd.sublist (List.take_sublist _ _)
    refine ⟨u, rv, ?_⟩
    rcases S.par y (List.mem_of_getElem? hp) with k | k
    · exact .inl ⟨k, z4a ndP hp hu k⟩
    · obtain ⟨c, e⟩ := z5d (n := s.heap.objs.size + 1) k
      refine .inr ⟨.inl k, c, e, ?_⟩
      have q := x.cell y c e
      rw [z4c ndP hp hu (by show scope.names.lookup y ≠ _; rw [k]; decide)] at q
      exact q
  · exact e0.hok.fresh (Nat.le_of_lt (x.above y c (PySem.mem_of_lookup h)))
  · unfold start
    show _ = N.length
    rw [List.length_append, List.length_map, List.length_replicate]
    omega
theorem z9w {CX : CXT} {P : Program} {w : World} {K : PySem.W.Frag} {mg : Str -> Option Value} {base : Heap} {k : Nat} {f : Addr} {name qual : Str} {params : Arguments} {body : List Stmt} {scope : Scope} {dV kV doc pm cdv ct oc : Value} {an od : Option Addr}
    {osl : Array (Option Value)} {N ps : List Str} {sp : Sp} (lk : K.lookup f = some ⟨oc, od, .func (PySem.W.fnOf name qual params body scope dV kV doc pm an cdv ct), osl⟩) (hcd : PySem.W.codeIn K cdv qual = true) (S : FnScope N ps scope)
    (len : ∀ vs H Q E, sp vs H Q E -> vs.length = ps.length)
    (hbody : ∀ (A : Around) (outer : List Env) (s : Shared) (H : Hp) (vs : List V) (Q : VK) (E : XK), Room k (A.deeper (envOfC qual scope s.heap.objs.size f cdv)) -> sp vs H Q E ->
      ∃ t, PSs (cxOf CX P w K mg base N qual scope f cdv A outer s H E) body t /\ t { nx := fun _ H' => Q .non H', rt := Q } (start N vs) H) :
    FnOk P w K mg base CX (k + 1) f (PySem.W.fnOf name qual params body scope dV kV doc pm an cdv ct) ps sp := by
  refine ⟨len, fun A outer s H args us vs Q E hr e0 hb r hsp => ?_⟩
  have hl := len _ _ _ _ hsp
  have KX : K.In s.heap := e0.mod.kin.keeps fun b o e => (e0.bs b o e).1
  have lim : s.heap.NoLimit := e0.mod.nolimit.keeps fun b o e => (e0.bs b o e).1
  have hkind : ∀ y ∈ ps.zip us, scope.names.lookup y.1 = some .local ∨ (scope.names.lookup y.1 = some .cell /\ ((cellsFrom (s.heap.objs.size + 1) scope.names []).lookup y.1).isSome = true) := fun ⟨n, v⟩ hy => by
    rcases S.par n (List.of_mem_zip hy).1 with q | q
    · exact .inl q
    · exact .inr ⟨q, PySem.W.cellsFrom_some _ _ _ (.inl q)⟩
  refine codeAny_call_function hr.depth (KX _ _ lk) rfl S.co S.gen rfl (PySem.W.codeRec_of KX hcd) (hb _ _ _ _ ?_)
  refine wpAny_newFunctionEnv_cells S.kind hkind fun env he s1 x => ?_
  subst he
  refine ⟨lim.keeps x.toInCall.keep, codeAny_func ?_⟩
  obtain ⟨t, ht, hq⟩ := hbody A outer s H vs Q E (hr.deeper _) hsp
  have I : Inv (cxOf CX P w K mg base N qual scope f cdv A outer s H E) [] (start N vs) H s1 := z6r S hr.hd e0 hl r x
  refine wpAny_mono (ht [] s1 (start N vs) H _ I hq) (fun fl s' hs => ?_) fun e s' hs => hs
  have fin : ∀ {σ' : St} {H' : Hp} {v : V} {u : Value}, Inv (cxOf CX P w K mg base N qual scope f cdv A outer s H E) [] σ' H' s' -> RelV v u -> Q v H' -> CE outer P w H s Q u s' :=
    fun {σ' H' v u} J rv q => ⟨v, H', J.os, J.bare, J.base, J.hok, rv, q⟩
  cases fl with
  | ret u =>
    obtain ⟨v, σ', H', J, rv, q⟩ := hs
    exact fin J rv q
  | next =>
    obtain ⟨σ', H', J, q⟩ := hs
    exact fin (v := V.non) (u := Value.none) J rfl q
  | brk =>
    obtain ⟨_, _, _, q⟩ := hs
    exact False.elim q
  | cont =>
    obtain ⟨_, _, _, q⟩ := hs
    exact False.elim q
end L2
namespace L2
open PySem PySem.Spec PyProof.Rows
section
variable {X : Cx} {x : Str} {p pos : Pos} {e : Expr} {es : List Expr} {t : TA} {id T : String} {r : List V -> Hp -> VK -> Prop}
end
end L2
namespace HT
open PySem PyProof.Rows
section
open PySem.SeqAt
open PySem.AutoSeq1 (wpAny_loadPart')
open PySem.MeetsSeq PySem.MeetsSeq2 PySem.MeetsSeq3
end
section
variable {prog : Program} {w : World} {A : Around} {E : Value -> Shared -> Prop} {s : Shared}
theorem cat_tup {t b : Addr} {vs ws : List Value} {Q : Value -> Shared -> Prop} (ht : IsTup s.heap t vs.toArray) (hb : IsTup s.heap b ws.toArray) (hv : vs ≠ [])
    (h1 : ws = [] -> Q (.ref t) s) (h2 : ws ≠ [] -> Q (.ref s.heap.objs.size) { s with heap := s.heap.push { cls := .type "tuple", data := .seq (vs ++ ws).toArray } })
    (hsz : vs.length + ws.length <= sizeLine) : wpAny (model prog w) A (binaryOp .Add (.ref t) (.ref b)) Q E s := by
  obtain ⟨⟨cls, dd, data, sl⟩, ho, hc, n, hd⟩ := id ht
  obtain ⟨⟨cls2, dd2, data2, sl2⟩, ho2, hc2, n2, hd2⟩ := id hb
  simp only at hc hd hc2 hd2
  subst hc hd hc2 hd2
  have e : vs.toArray ++ ws.toArray = (vs ++ ws).toArray := by simp
  by_cases hw : ws = []
  · exact concat_meets ⟨_, ho, rfl⟩ ⟨_, ho2, rfl⟩ noFill_tuple_add seq_tuple_add PySem.F.slot_tuple_add PySem.F.entry_tuple_add (PySem.F.args_tuple_add_2 _ _)
      (tuple_addW1 t b vs.toArray ws.toArray n n2 dd dd2 sl sl2 (by simpa using hv) (by simp [hw])) ⟨ho, ho2, h1 hw⟩
  · refine concat_meets ⟨_, ho, rfl⟩ ⟨_, ho2, rfl⟩ noFill_tuple_add seq_tuple_add PySem.F.slot_tuple_add PySem.F.entry_tuple_add (PySem.F.args_tuple_add_2 _ _)
      (tuple_addW2 t b vs.toArray ws.toArray n n2 dd dd2 sl sl2 (by simpa using hv) (by simpa using hw) (by rw [List.size_toArray, List.size_toArray]; exact hsz)) ⟨ho, ho2, ?_⟩
    rw [e]
    exact h2 hw
noncomputable def sIx (n d : Nat) : Option Int -> Nat
  | none => d
  | some v => if v < 0 then (v + (n : Int)).toNat else min v.toNat n
theorem sIx_none (n d : Nat) : sIx n d none = d := rfl
theorem sIx_nat (n d k : Nat) : sIx n d (some (k : Int)) = min k n := by
  show (if (k : Int) < 0 then ((k : Int) + (n : Int)).toNat else min (k : Int).toNat n) = min k n
  rw [if_neg (by omega), Int.toNat_natCast]
end
end HT
namespace L2
open PySem PySem.Spec PyProof.Rows
noncomputable abbrev TO := St -> Hp -> (Option Int -> Hp -> Prop) -> Prop
section
variable {X : Cx} {e : Expr} {te : TE} {lo hi : Option Expr} {tl th : TO} {pos p2 : Pos}
noncomputable def SlR (X : Cx) (r : V -> Option Int -> Option Int -> Hp -> VK -> Prop) : Prop :=
  ∀ (pins : List (Addr × Obj)) (s : Shared) (σ : St) (H : Hp) (x : V) (v vl vu : Value) (lo hi : Option Int) (sl : Addr) (Q : VK), Inv X pins σ H s -> RelV x v -> s.heap.IsSliceOf sl vl vu .none -> IsPart vl lo -> IsPart vu hi -> r x lo hi H Q ->
    ∃ T id, typeLookup (.type T) "__getitem__" = pure (some (.builtin id)) /\ s.TypeIs v T /\ wpAny (model X.prog X.w) X.A (getItem v (.ref sl)) (EP X pins σ Q) X.xe s
theorem SlR.or {r r' : V -> Option Int -> Option Int -> Hp -> VK -> Prop} (h : SlR X r) (h' : SlR X r') : SlR X (fun x lo hi H Q => r x lo hi H Q ∨ r' x lo hi H Q) := by
  intro pins s σ H x v vl vu lo hi sl Q I rx hs pl pu q
  rcases q with q | q
  · exact h pins s σ H x v vl vu lo hi sl Q I rx hs pl pu q
  · exact h' pins s σ H x v vl vu lo hi sl Q I rx hs pl pu q
noncomputable def cutV (xs : List V) (lo hi : Option Int) : List V := (xs.drop (HT.sIx xs.length 0 lo)).take (HT.sIx xs.length xs.length hi - HT.sIx xs.length 0 lo)
theorem z4k (xs : List V) (lo hi : Option Int) : (cutV xs lo hi).length <= xs.length := by
  unfold cutV
  rw [List.length_take, List.length_drop]
  omega
noncomputable def y2f (K : PySem.W.Frag) : R2 := fun x y H Q => ∃ a b xs ys, x = .ref a /\ y = .ref b /\ SqT K H a xs /\ SqT K H b ys /\ xs ≠ [] /\ xs.length + ys.length <= sizeLine /\
  (ys = [] -> Q (.ref a) H) /\ (ys ≠ [] -> ∀ p, H p = none -> Q (.ref p) (upd H p (.tup (xs ++ ys))))
theorem Vals.nil_iff {xs : List V} {us : List Value} (r : Vals xs us) : us = [] ↔ xs = [] := by
  cases r with
  | nil => simp
  | cons _ _ => simp
theorem z9b : OpR X (binaryOp .Add) (y2f X.K) := by
  intro pins s σ H x y v u Q I rx ry h
  obtain ⟨a, b, xs, ys, rfl, rfl, ha, hb, hx, hz, q1, q2⟩ := h
  cases rx
  cases ry
  obtain ⟨its, r1, p1, _⟩ := I.tuple ha
  obtain ⟨its2, r2, p2, _⟩ := I.tuple hb
  refine HT.cat_tup p1 p2 (fun z => hx (r1.nil_iff.mp z)) (fun z => ⟨.ref a, H, I, rfl, q1 (r2.nil_iff.mp z)⟩) (fun z => ?_) (by rw [<- r1.length, <- r2.length]; exact hz)
  refine ⟨.ref s.heap.objs.size, _, I.laid (t' := s.toks) (o := .tup (xs ++ ys)) (fun b ob q => Heap.get?_push_of_some _ q) (Nat.le_refl _) ?_, rfl, q2 (fun w => z (r2.nil_iff.mpr w)) _ (I.hok.fresh (Nat.le_refl _))⟩
  exact ⟨by rw [List.length_append]; exact hz, _, r1.append r2, IsTup.new _ _⟩
end
end L2
namespace L2
open PySem PySem.Spec PyProof.Rows
noncomputable def ixN (n : Nat) (i : Int) : Option Nat := if 0 <= i then (if i < n then some i.toNat else none) else if -(n : Int) <= i then some (i + n).toNat else none
noncomputable def atI {α : Type} (xs : List α) (i : Int) : Option α := (ixN xs.length i).bind fun j => xs[j]?
theorem z9r {n : Nat} {i : Int} {j : Nat} (h : ixN n i = some j) : seqIndex? i n = some j /\ j < n /\ -(n : Int) <= i /\ i < n := by
  unfold ixN at h
  by_cases h0 : 0 <= i
  · rw [if_pos h0] at h
    by_cases h1 : i < n
    · rw [if_pos h1] at h
      have e : i.toNat = j := Option.some.inj h
      exact ⟨by rw [seqIndex_of h0 h1, e], by omega, by omega, h1⟩
    · rw [if_neg h1] at h; cases h
  · rw [if_neg h0] at h
    by_cases h1 : -(n : Int) <= i
    · rw [if_pos h1] at h
      have e : (i + n).toNat = j := Option.some.inj h
      exact ⟨by rw [seqIndex_neg (by omega) h1, e], by omega, h1, by omega⟩
    · rw [if_neg h1] at h; cases h
theorem z7c {α : Type} {xs : List α} {i : Int} {v : α} (h : atI xs i = some v) : ∃ j, seqIndex? i xs.length = some j /\ xs[j]? = some v /\ j < xs.length /\ -(xs.length : Int) <= i /\ i < xs.length := by
  unfold atI at h
  cases e : ixN xs.length i with
  | none => rw [e] at h; cases h
  | some j =>
    rw [e] at h
    obtain ⟨h1, h2, h3, h4⟩ := z9r e
    exact ⟨j, h1, h, h2, h3, h4⟩
noncomputable def y0f (b : Expr) : Prop := ∀ o i, subscripted b false o i = operate [o, i] (getItem o i)
noncomputable def IxR (X : Cx) (r : R2) : Prop :=
  ∀ (value slice : Expr) (pins : List (Addr × Obj)) (s : Shared) (σ : St) (H : Hp) (x y : V) (v u : Value) (Q : VK), Inv X pins σ H s -> RelV x v -> RelV y u -> r x y H Q ->
    subscripted slice false v u = operate [v, u] (getItem v u) -> wpAny (model X.prog X.w) X.A (subscriptTail value slice v u) (EP X pins σ Q) X.xe s
noncomputable def MtR (X : Cx) (id : String) (r : V -> List V -> Hp -> VK -> Prop) : Prop :=
  ∀ (pins : List (Addr × Obj)) (s : Shared) (σ : St) (H : Hp) (x : V) (xs : List V) (v : Value) (us : List Value) (Q : VK), Inv X pins σ H s -> RelV x v -> Vals xs us -> r x xs H Q ->
    wpAny (model X.prog X.w) X.A (call (.builtin id) (v :: us)) (EP X pins σ Q) X.xe s
section
variable {X : Cx} {a b : Expr} {ta tb : TE} {pos : Pos}
theorem IxR.or {r r' : R2} (h : IxR X r) (h' : IxR X r') : IxR X (fun x y H Q => r x y H Q ∨ r' x y H Q) := by
  intro value slice pins s σ H x y v u Q I rx ry q hs
  rcases q with q | q
  · exact h value slice pins s σ H x y v u Q I rx ry q hs
  · exact h' value slice pins s σ H x y v u Q I rx ry q hs
theorem MtR.or {id : String} {r r' : V -> List V -> Hp -> VK -> Prop} (h : MtR X id r) (h' : MtR X id r') : MtR X id (fun x xs H Q => r x xs H Q ∨ r' x xs H Q) := by
  intro pins s σ H x xs v us Q I rx rs q
  rcases q with q | q
  · exact h pins s σ H x xs v us Q I rx rs q
  · exact h' pins s σ H x xs v us Q I rx rs q
noncomputable def rIxL (K : PySem.W.Frag) : R2 := fun x y H Q => ∃ p xs i v, x = .ref p /\ y = .int i /\ SqL K H p xs /\ atI xs i = some v /\ Q v H
noncomputable def rIxT (K : PySem.W.Frag) : R2 := fun x y H Q => ∃ p xs i v, x = .ref p /\ y = .int i /\ SqT K H p xs /\ atI xs i = some v /\ Q v H
theorem z9q : IxR X (rIxL X.K) := by
  intro value slice pins s σ H x y v u Q I rx ry h hs
  obtain ⟨p, xs, i, z, rfl, rfl, hq, he, q⟩ := h
  cases rx
  obtain ⟨t, rfl⟩ := ry
  obtain ⟨its, r, pl, hz⟩ := I.list hq
  obtain ⟨j, h1, h2, h3, h4, h5⟩ := z7c he
  obtain ⟨w, ew, rw'⟩ := r.get h2
  have hl := r.length
  have hn := z6l
  have fin : EP X pins σ Q w s := ⟨z, H, I, rw', q⟩
  by_cases h0 : 0 <= i
  · have hj : i.toNat = j := by
      rw [seqIndex_of h0 h5] at h1
      exact Option.some.inj h1
    exact item_listR pl.isList h0 (by omega) (by rw [hj]; simpa using ew) fin hs
  · have hj : (i + (its.toArray.size : Int)).toNat = j := by
      rw [seqIndex_neg (by omega) h4] at h1
      rw [List.size_toArray, <- hl]
      exact Option.some.inj h1
    exact subscriptTail_builtinR (x := w) pl.isList.typeIs slot_list_getitem.lookup
      (wpAny_getItem_list_neg (Q := fun r s' => r = w /\ EP X pins σ Q r s') pl.isList (by omega) (by rw [List.size_toArray] <;> omega) (by omega) (by rw [hj]; simpa using ew) ⟨rfl, fin⟩) hs
theorem y1s : IxR X (rIxT X.K) := by
  intro value slice pins s σ H x y v u Q I rx ry h hs
  obtain ⟨p, xs, i, z, rfl, rfl, hq, he, q⟩ := h
  cases rx
  obtain ⟨t, rfl⟩ := ry
  obtain ⟨its, r, pl, hz⟩ := I.tuple hq
  obtain ⟨j, h1, h2, h3, h4, h5⟩ := z7c he
  obtain ⟨w, ew, rw'⟩ := r.get h2
  have hl := r.length
  have hn := z6l
  have fin : EP X pins σ Q w s := ⟨z, H, I, rw', q⟩
  exact subscriptTail_builtinR (x := w) pl.typeIs slot_tuple_getitem.lookup
    (getItem_tuple (j := j) (Q := fun r s' => r = w /\ EP X pins σ Q r s') pl (by omega) (by omega) (by rw [List.size_toArray, <- hl]; exact h1) (by simpa using ew) ⟨rfl, fin⟩) hs
theorem Inv.lst {pins : List (Addr × Obj)} {σ : St} {H : Hp} {s : Shared} {p : Addr} {xs : List V} (I : Inv X pins σ H s) (h : H p = some (.lst xs)) :
    ∃ (its : List Value) (n : Nat), Vals xs its /\ s.heap.get? p = some { cls := .type "list", data := .seq its.toArray n } /\ xs.length <= sizeLine := by
  obtain ⟨z, its, n, r, e⟩ := I.hok p _ h
  exact ⟨its, n, r, e, z⟩
theorem z3f (lo hi : Option Int) (n : Nat) : (sliceBounds lo hi none n).1 = ((HT.sIx n 0 lo : Nat) : Int) /\ (sliceBounds lo hi none n).2.1 = ((HT.sIx n n hi : Nat) : Int) /\ (sliceBounds lo hi none n).2.2 = 1 := by
  refine ⟨?_, ?_, rfl⟩
  · cases lo with
    | none => simp [sliceBounds, HT.sIx]
    | some i =>
      simp only [sliceBounds, HT.sIx, Option.getD_none, show (1 : Int) > 0 by decide, if_true]
      by_cases h : i < 0
      · simp only [h, if_true] <;> omega
      · simp only [h, if_false] <;> omega
  · cases hi with
    | none => simp [sliceBounds, HT.sIx]
    | some i =>
      simp only [sliceBounds, HT.sIx, Option.getD_none, show (1 : Int) > 0 by decide, if_true]
      by_cases h : i < 0
      · simp only [h, if_true] <;> omega
      · simp only [h, if_false] <;> omega
theorem z2y (its : List Value) (lo hi : Option Int) : slicePick its.toArray lo hi none = ((its.drop (HT.sIx its.length 0 lo)).take (HT.sIx its.length its.length hi - HT.sIx its.length 0 lo)).toArray := by
  obtain ⟨h1, h2, h3⟩ := z3f lo hi its.toArray.size
  unfold slicePick
  rw [h1, h2, h3]
  simp only [sliceRange_one, pick_run, List.size_toArray] <;> rfl
noncomputable def rSlL (K : PySem.W.Frag) : V -> Option Int -> Option Int -> Hp -> VK -> Prop := fun x lo hi H Q => ∃ a xs, x = .ref a /\ SqL K H a xs /\ ∀ p, H p = none -> Q (.ref p) (upd H p (.lst (cutV xs lo hi)))
theorem z8o : SlR X (rSlL X.K) := by
  intro pins s σ H x v vl vu lo hi sl Q I rx hs pl pu h
  obtain ⟨a, xs, rfl, hx, q⟩ := h
  cases rx
  obtain ⟨its, r, ht, hz⟩ := I.list hx
  have hlen := r.length
  refine ⟨"list", _, slot_list_getitem.lookup, ht.isList.typeIs, ?_⟩
  refine wpAny_getItem_list_slice ht.isList hs pl pu .none (by simp) ?_ (by rw [List.size_toArray] <;> omega)
  rw [z2y, <- hlen]
  refine ⟨.ref s.heap.objs.size, _, I.laid (t' := s.toks) (o := .lst (cutV xs lo hi)) (fun b ob q => Heap.get?_push_of_some _ q) (Nat.le_refl _) ?_, rfl, q _ (I.hok.fresh (Nat.le_refl _))⟩
  exact ⟨Nat.le_trans (z4k xs lo hi) hz, _, 0, (r.drop (HT.sIx xs.length 0 lo)).take (HT.sIx xs.length xs.length hi - HT.sIx xs.length 0 lo), Heap.get?_push_size _ rfl⟩
theorem z3y : z5p X (.builtin "len") (fun xs H Q => ∃ p ys, xs = [.ref p] /\ (SqL X.K H p ys ∨ SqT X.K H p ys) /\ Q (.int ys.length) H) := by
  intro pins s σ H xs us Q I r h
  obtain ⟨p, ys, rfl, hq, q⟩ := h
  obtain ⟨u, rfl, rx⟩ := y2d r
  cases rx
  have hn := z6l
  rcases hq with hq | hq
  · obtain ⟨its, r', pl, hz⟩ := I.list hq
    have hlen := r'.length
    exact Calls.call_len_list pl.isList (by simp only [List.size_toArray] <;> omega) ⟨.int ys.length, H, I.tok _, ⟨s.toks + 1, by rw [List.size_toArray, hlen]⟩, q⟩
  · obtain ⟨its, r', pl, hz⟩ := I.tuple hq
    have hlen := r'.length
    exact len_tuple pl (by simp only [List.size_toArray] <;> omega) ⟨.int ys.length, H, I.tok _, ⟨s.toks + 1, by rw [List.size_toArray, hlen]⟩, q⟩
theorem z5p.or {f : Value} {r r' : List V -> Hp -> VK -> Prop} (h : z5p X f r) (h' : z5p X f r') : z5p X f (fun xs H Q => r xs H Q ∨ r' xs H Q) := by
  intro pins s σ H xs us Q I rs q
  rcases q with q | q
  · exact h pins s σ H xs us Q I rs q
  · exact h' pins s σ H xs us Q I rs q
noncomputable def tyV (K : PySem.W.Frag) (T : String) (x : V) (H : Hp) : Prop := match x with
  | .str _ => T = "str"
  | .int _ => T = "int"
  | .ref p => (T = "list" /\ ∃ xs, SqL K H p xs) ∨ (T = "tuple" /\ ∃ o, K.lookup p = some o /\ o.cls = .type "tuple" /\ o.dict = none) ∨
      (T = "dict" /\ ((∃ kvs, H p = some (.dK kvs)) ∨ ∃ kvs, H p = some (.dT kvs))) ∨ (T = "set" /\ ∃ S n, H p = some (.set S n))
  | _ => False
theorem y0g {pins : List (Addr × Obj)} {σ : St} {H : Hp} {s : Shared} {T : String} {x : V} {v : Value} (I : Inv X pins σ H s) (r : RelV x v) (ty : tyV X.K T x H) :
    s.TypeIs v T /\ ∀ a, v = .ref a -> ∃ ob, s.heap.get? a = some ob /\ ob.dict = none := by
  cases x with
  | str z =>
    obtain ⟨t, rfl⟩ := r
    cases (show T = "str" from ty)
    exact ⟨typeIs_str s z t, fun _ e => nomatch e⟩
  | int i =>
    obtain ⟨t, rfl⟩ := r
    cases (show T = "int" from ty)
    exact ⟨typeIs_int s i t, fun _ e => nomatch e⟩
  | ref p =>
    cases r
    rcases ty with ⟨rfl, xs, hq⟩ | ⟨rfl, o, hk, hc, hd⟩ | ⟨rfl, hk⟩ | ⟨rfl, S, n, hk⟩
    · obtain ⟨its, _, pl, _⟩ := I.list hq
      refine ⟨pl.isList.typeIs, fun a e => ?_⟩
      cases e
      obtain ⟨o, n, e, c, hd, _⟩ := pl
      exact ⟨o, e, hd⟩
    · refine ⟨⟨o, I.kIn p o hk, hc⟩, fun a e => ?_⟩
      cases e
      exact ⟨o, I.kIn _ o hk, hd⟩
    · have z : ∃ o, s.heap.get? p = some o /\ o.ExactDict := by
        rcases hk with ⟨kvs, hk⟩ | ⟨kvs, hk⟩
        · obtain ⟨_, _, _, _, o, _, _, e, ex, _⟩ := I.hok p _ hk
          exact ⟨o, e, ex⟩
        · obtain ⟨_, _, _, _, o, _, _, e, ex, _⟩ := I.hok p _ hk
          exact ⟨o, e, ex⟩
      obtain ⟨o, e, ex⟩ := z
      refine ⟨⟨o, e, ex.1⟩, fun a e2 => ?_⟩
      cases e2
      exact ⟨o, e, ex.2.1⟩
    · obtain ⟨o, _, _, _, e, ex, _⟩ := I.hok p _ hk
      refine ⟨⟨o, e, ex.1⟩, fun a e2 => ?_⟩
      cases e2
      exact ⟨o, e, ex.2.1⟩
  | _ => exact False.elim ty
variable {o e : Expr} {es : List Expr} {to : TE} {t : TA} {name : Str} {apos cpos : Pos} {T id : String} {r : V -> List V -> Hp -> VK -> Prop}
end
end L2
namespace L2
open PySem PySem.Spec PyProof.Rows
noncomputable def MtM (X : Cx) (id : String) (r : V -> List V -> Hp -> VK -> Prop) : Prop :=
  ∀ (pins : List (Addr × Obj)) (s : Shared) (σ : St) (H : Hp) (x : V) (xs : List V) (v : Value) (us : List Value) (Q : VK), Inv X pins σ H s -> RelV x v -> Vals xs us -> r x xs H Q ->
    wpAny (model X.prog X.w) X.A (call (.builtin id) (v :: us)) (EP X pins σ Q) X.xe s
theorem Vals.one : ∀ {x : V} {us : List Value}, Vals [x] us -> ∃ u, us = [u] /\ RelV x u
  | _, _, .cons r .nil => ⟨_, rfl, r⟩
theorem Vals.two : ∀ {x y : V} {us : List Value}, Vals [x, y] us -> ∃ u v, us = [u, v] /\ RelV x u /\ RelV y v
  | _, _, _, .cons r (.cons q .nil) => ⟨_, _, rfl, r, q⟩
theorem Vals.zero : ∀ {us : List Value}, Vals [] us -> us = []
  | _, .nil => rfl
theorem Vals.rep {xs : List V} {us : List Value} (h : Vals xs us) : ∀ k : Nat, Vals (List.replicate k xs).flatten (List.replicate k us).flatten
  | 0 => .nil
  | k + 1 => by
    rw [List.replicate_succ, List.replicate_succ, List.flatten_cons, List.flatten_cons]
    exact Vals.append h (Vals.rep h k)
theorem z3u (its : List Value) : ∀ (k : Nat) (acc : List Value),
    List.foldl (fun x1 x2 => x1 ++ x2) acc.toArray (List.replicate k its.toArray) = (acc ++ (List.replicate k its).flatten).toArray
  | 0, acc => by simp
  | k + 1, acc => by
    have e : acc.toArray ++ its.toArray = (acc ++ its).toArray := by simp
    have e2 : (acc ++ its) ++ (List.replicate k its).flatten = acc ++ (List.replicate (k + 1) its).flatten := by
      rw [List.replicate_succ, List.flatten_cons, List.append_assoc]
    rw [<- e2, <- z3u its k (acc ++ its), <- e, List.replicate_succ, List.foldl_cons]
section
variable {X : Cx} {pins : List (Addr × Obj)} {σ : St} {H : Hp} {s : Shared} {l b : Addr} {xs ys zs : List V}
theorem Inv.lset {its its' : List Value} {n : Nat} {f : Array Value -> Array Value} {t' : Nat} (I : Inv X pins σ H s) (hH : H l = some (.lst xs))
    (e : s.heap.get? l = some { cls := .type "list", data := .seq its.toArray n }) (hf : f its.toArray = its'.toArray) (hv : Vals ys its') (hz : ys.length <= sizeLine) :
    Inv X pins σ (upd H l (.lst ys)) { s with heap := s.heap.update l (Obj.mapSeq f), toks := t' } := by
  have q := PySem.IsL.update e f
  rw [hf] at q
  refine I.write (x := l) (e := l) (by rw [hH]; exact trivial) (.inl rfl) (fun b' u hb hu => (Heap.get?_update_other s.heap (Obj.mapSeq f) (Ne.symm hb)).trans hu) ⟨_, q⟩ ?_
  exact ⟨hz, its', _, hv, q⟩
theorem Inv.fresh (I : Inv X pins σ H s) : H s.heap.objs.size = none := I.hok.fresh (Nat.le_refl _)
theorem Inv.lstM (I : Inv X pins σ H s) (hH : H l = some (.lst xs)) : xs.length <= sizeLine /\ ∃ (its : List Value) (n : Nat), Vals xs its /\ xs.length = its.length /\ s.heap.get? l = some { cls := .type "list", data := .seq its.toArray n } := by
  obtain ⟨z, its, n, r, e⟩ := I.hok l _ hH
  exact ⟨z, its, n, r, r.length, e⟩
end
section
variable {X : Cx}
noncomputable def z8s : V -> List V -> Hp -> VK -> Prop := fun x vs H Q => ∃ l xs y, x = .ref l /\ vs = [y] /\ H l = some (.lst xs) /\ xs.length < sizeLine /\ Q .non (upd H l (.lst (xs ++ [y])))
theorem z6h : MtM X "list.append" z8s := by
  intro pins s σ H x vs v us Q I rx rv h
  obtain ⟨l, xs, y, rfl, rfl, hH, hz, q⟩ := h
  cases rx
  obtain ⟨u, rfl, ru⟩ := rv.one
  obtain ⟨z, its, n, r, hl, e⟩ := I.lstM hH
  refine call_meets F.slot_list_append ⟨_, e, rfl⟩ F.entry_list_append (F.args_list_append_2 _ _) (PySem.list_append l its.toArray n u (by rw [List.size_toArray]; omega)) ⟨e, ?_⟩
  refine ⟨.non, _, I.lset (its' := its ++ [u]) hH e (by simp) (r.append (.cons ru .nil)) ?_, rfl, q⟩
  rw [List.length_append, List.length_singleton]
  omega
theorem z6n {α : Type} (xs : List α) (k : Nat) : (List.replicate k xs).flatten.length = k * xs.length := by
  induction k with
  | zero => simp
  | succ k ih => rw [List.replicate_succ, List.flatten_cons, List.length_append, ih, Nat.succ_mul, Nat.add_comm]
end
section
variable {prog : Program} {w : World} {A : Around} {E : Value -> Shared -> Prop} {s : Shared}
end
section
variable {X : Cx}
end
end L2
namespace Att
open PySem PySem.W PySem.Calls PyProof.Rows
theorem z2j {P : Params} {h : Heap} : ∀ (ns : List Int) (vs : List Value), WellAll P h vs (ns.map WData.int) -> IntsAre vs ns := by
  intro ns
  induction ns with
  | nil =>
    intro vs w
    rw [List.map_nil] at w
    cases w
    exact .nil
  | cons n ns ih =>
    intro vs w
    rw [List.map_cons] at w
    cases w with
    | cons a b =>
      cases a
      exact .cons _ _ (ih _ b)
theorem z5u {l : OpenLaw} {n : Nat} (hn : l.most = some n) {P : Params} {h : Heap} {args : List WData} {vals : List Value}
    (hpre : l.row.toRowW.claim.pre args = true) (hwl : WellAll P h vals args) :
    ∃ a vs ns, vals = [Value.ref a] /\ args = [WData.list (ns.map WData.int)] /\ h.get? a = some { cls := .type "list", data := .seq vs.toArray } /\ IntsAre vs ns /\ ns.length <= n := by
  have hsh : WShape.hasAll [] args [.list .int] = true := (pre_splitW hpre).1
  have hc : l.pre.holds [] { args := args } = true := (pre_splitW hpre).2
  obtain ⟨d, r, rfl, h1, h2⟩ := hasAllW_cons hsh
  obtain rfl := hasAllW_nil h2
  obtain ⟨xs, rfl, h3⟩ := hasW_list h1
  obtain ⟨ns, rfl⟩ := items_int h3
  have hlen : ns.length <= n := by
    unfold OpenLaw.pre at hc
    have h4 : (WTm.not (.lt (.lit (.int (n : Int))) (.len (.arg 0)))).holds [] { args := [.list (ns.map .int)] } = true := by
      have h4 := (holds_andW hc).1
      rw [hn] at h4
      exact h4
    have h5 := condW_of h4 (w_not (w_lt w_lit (w_len_list (w_arg rfl))))
    rw [List.length_map] at h5
    refine Nat.le_of_not_lt fun q => ?_
    have q' : (n : Int) < ((ns.length : Nat) : Int) := by omega
    first
      | (rw [decide_eq_true q'] at h5; exact absurd h5 (by decide))
      | (simp at h5; omega)
  cases hwl with
  | cons w1 w2 =>
    cases w2
    cases w1 with
    | list ho hall => exact ⟨_, _, ns, rfl, rfl, ho, z2j ns _ hall, hlen⟩
theorem z6a (l : OpenLaw) (args : List WData) : l.row.toRowW.claim.post args (.bool true) args = true :=
  postW_of (r := l.row.toRowW) (X := (true == true))
    (show WShape.has [] (.bool true) .bool = true by first | rfl | decide | simp [WShape.has, WShape.arms, WShape.armsAll])
    (show (WTm.eq .res (.lit (.bool true))).value [] { args := args, res := some (.bool true), after := args } = some (.bool (true == true)) from w_eq_bool (w_res rfl) w_lit) rfl
theorem attach_call {l : OpenLaw} {n : Nat} {q : Program} {loose : List Str} {XP : (Str -> Option Value) -> Heap -> Prop} {YP : World -> Heap -> Prop} {d : DefRec}
    (hn : l.most = some n) (hdf : d.params.defaults = [])
    (call : ∀ (w : World) (s₀ s₁ : Shared) (mg mb : Str -> Option Value) (fa : Addr) (o : Obj) (pm cd doc : Value) (a : Addr) (vs : List Value) (ns : List Int),
      Ground q loose [] XP w s₀ mg mb s₁.heap -> YP w s₁.heap ->
      s₁.heap.get? fa = some o -> o.data = .func (docDef d.name d.params d.body d.scope pm cd doc) -> s₁.heap.CodeRec cd d.name -> mg d.name = some (.ref fa) ->
      s₁.heap.get? a = some { cls := .type "list", data := .seq vs.toArray } -> IntsAre vs ns -> ns.length <= n -> s₁.gens = #[] ->
      codeAny (model l.prog w) callerA (.call (.ref fa) ⟨[.ref a], []⟩) (fun r s' => r = .ok (.ret (.bool true)) /\ OldK s₁.heap s'.heap /\ s'.os = s₁.os /\ AllBare s'.gens) s₁) :
    WalkO q loose XP YP l.row.toRowW d [] (fun f vs => PySem.call f vs) := by
  intro w s₀ s₁ mg mb G Y fa o pm cd doc dV kV ho hd hcd hD hmg hg args vals as hpre hlay hrd hwl hlo
  obtain rfl : dV = .none := Dflts.none hD hdf
  obtain rfl : kV = .none := Dflts.noKw hD
  obtain ⟨a, vs, ns, rfl, rfl, hobj, hints, hlen⟩ := z5u hn hpre hwl
  refine enter_call (codeAny_mono (call w s₀ s₁ mg mb fa o pm cd doc a vs ns G Y ho (fd_plain hd) hcd hmg hobj hints hlen hg) fun r s' hq => ?_)
  obtain ⟨rfl, h2, h3, h4⟩ := hq
  exact ⟨.inl ⟨.bool true, .bool true, [], rfl, fun _ => rfl, .bool true, z6a l _, fun _ => ⟨List.Pairwise.nil, fun _ hm => (nomatch hm)⟩⟩, h2, h3, h4⟩
section
variable {prog : Program} {w : World} {A : Around} {E : Value -> Shared -> Prop} {s : Shared} {K : Frag}
end
end Att
namespace L2
open PySem PySem.Spec PyProof.Rows
theorem vals_ints : ∀ {vs : List Value} {ns : List Int}, IntsAre vs ns -> Vals (ns.map V.int) vs
  | _, _, .nil => .nil
  | _, _, .cons n t h => .cons ⟨t, rfl⟩ (vals_ints h)
noncomputable def Only (H : Hp) : Prop := ∀ b, H b = none ∨ ∃ o xs, H b = some (.frz o (.lst xs))
theorem z7k {P : Program} {w : World} {K : PySem.W.Frag} {mg mb : Str -> Option Value} {CX : CXT} {k : Nat} {fa a : Addr} {fd : FuncData} {x : Str} {sp : Sp} {s₁ : Shared} {vs : List Value} {ns : List Int}
    (KX : K.In s₁.heap) (hns : s₁.heap.Ns mainGlobals mg) (hb : s₁.heap.Ns builtinsNs mb) (hbb : ∀ x : Str, x ≠ "__name__" -> mb x = bootBuiltins x) (hlim : s₁.heap.NoLimit) (hg : s₁.gens = #[])
    (ha : s₁.heap.get? a = some { cls := .type "list", data := .seq vs.toArray }) (hi : IntsAre vs ns) (hl : ns.length <= sizeLine) (hr : Room k callerA)
    (F : ∀ base : Heap, K.In base -> base.Ns mainGlobals mg -> FnOk P w K mg base CX k fa fd [x] sp) (hbind : ∀ (s : Shared) (u : Value), BindsTo s fd ⟨[u], []⟩ [(x, u)])
    (hsp : ∀ H : Hp, Only H -> SqL K H a (ns.map V.int) -> sp [.ref a] H (fun v _ => v = .bl true) fun _ _ _ => False)
    (hCX : ∀ H e s', CX [] H s₁ (fun _ _ _ => False) e s' -> False) :
    codeAny (model P w) callerA (.call (.ref fa) ⟨[.ref a], []⟩) (fun r s' => r = .ok (.ret (.bool true)) /\ OldK s₁.heap s'.heap /\ s'.os = s₁.os /\ AllBare s'.gens) s₁ := by
  have rv := vals_ints hi
  have lenV := hi.length
  have core : ∀ H : Hp, Only H -> SqL K H a (ns.map V.int) -> HOk P w H s₁.heap -> (∀ b, H b ≠ none -> b = a) -> (H a ≠ none -> K.lookup a = none) ->
      codeAny (model P w) callerA (.call (.ref fa) ⟨[.ref a], []⟩) (fun r s' => r = .ok (.ret (.bool true)) /\ OldK s₁.heap s'.heap /\ s'.os = s₁.os /\ AllBare s'.gens) s₁ := by
    intro H hO hS hok hA hK
    have base_of : ∀ {b : Addr} {o : Obj}, s₁.heap.get? b = some o -> H b = none -> (hidT s₁.heap H).get? b = some o := fun e n => z3d e n
    have noA : ∀ {b : Addr} {o : Obj} {es : Array DictEntry} {ep : Nat}, s₁.heap.get? b = some o -> o.data = .dict es ep -> H b = none := fun {b o es ep} e d => by
      cases q : H b with
      | none => rfl
      | some u =>
        have e' : b = a := hA b (by rw [q]; simp)
        subst e'
        rw [ha] at e; cases e
        have d' : Data.seq vs.toArray _ = Data.dict es ep := d
        cases d'
    have nsK : ∀ {b : Addr} {m : Str -> Option Value}, s₁.heap.Ns b m -> (hidT s₁.heap H).Ns b m := fun {b m} ⟨o, es, ep, e, d, r⟩ => ⟨o, es, ep, base_of e (noA e d), d, r⟩
    have hKb : K.In (hidT s₁.heap H) := fun b o e => base_of (KX b o e) (by
      cases q : H b with
      | none => rfl
      | some u =>
        have e' : b = a := hA b (by rw [q]; simp)
        subst e'
        rw [hK (by rw [q]; simp)] at e; cases e)
    have hM : Mod K mg (hidT s₁.heap H) := ⟨hKb, nsK hns, ⟨mb, nsK hb, hbb⟩, let ⟨mc, h1, h2⟩ := hlim; ⟨mc, nsK h1, h2⟩⟩
    have e0 : Env0 P w K mg (hidT s₁.heap H) callerA [] s₁ H := ⟨rfl, hM, fun b o e => z4g e, Nat.le_of_eq (z6t _ _), trivial, fun b hb => absurd (show b ∈ ([] : List Addr) from hb) (by simp), hok, .of_eq hg⟩
    refine codeAny_mono ((F _ hKb (nsK hns)).run callerA [] s₁ H ⟨[.ref a], []⟩ [.ref a] [.ref a] _ _ hr e0 (hbind s₁ (.ref a)) (.cons rfl .nil) (hsp H hO hS)) fun r s' h => ?_
    cases r with
    | error e => exact (hCX H e s' h).elim
    | ok fl =>
      cases fl with
      | next => exact False.elim h
      | brk => exact False.elim h
      | cont => exact False.elim h
      | ret u =>
        obtain ⟨v, H', os, bare, un, hok', r', q⟩ := h
        have q' : v = .bl true := q
        subst q'
        obtain rfl : u = Value.bool true := r'
        refine ⟨rfl, OldK.of_keep fun b o e => ?_, os, bare⟩
        cases q : H b with
        | none => exact un.keep b o e q (by intro z; exact absurd (show b ∈ ([] : List Addr) from z) (by simp)) (by simp)
        | some u =>
          rcases hO b with z | ⟨ob, xs, z⟩
          · rw [q] at z; cases z
          · have z2 := un.frzs b ob _ z
            obtain ⟨e1, _⟩ := hok b _ z
            obtain ⟨e2, _⟩ := hok' b _ z2
            rw [e] at e1; cases e1
            exact e2
  cases hk : K.lookup a with
  | some o =>
    have e := KX a o hk
    rw [ha] at e
    cases e
    refine core (fun _ => none) (fun _ => .inl rfl) (.inr ⟨_, vs.toArray, _, hk, rfl, rfl, rfl, by rw [List.size_toArray, lenV]; exact hl, by simpa using rv⟩) (fun b u z => by have z' : (none : Option HO) = some u := z; cases z') (fun b z => absurd rfl z) fun z => absurd rfl z
  | none =>
    refine core (fun b => if b = a then some (.frz { cls := .type "list", data := .seq vs.toArray } (.lst (ns.map V.int))) else none) (fun b => ?_) (.inl (.inr ⟨{ cls := .type "list", data := .seq vs.toArray }, if_pos rfl⟩)) (fun b u z => ?_) (fun b z => ?_) fun _ => hk
    · by_cases hb : b = a
      · exact .inr ⟨_, _, if_pos hb⟩
      · exact .inl (if_neg hb)
    · by_cases hb : b = a
      · have z' := (if_pos hb).symm.trans z
        cases z'
        subst hb
        exact ⟨ha, by rw [List.length_map]; exact hl, vs, _, rv, ha⟩
      · have z' := (if_neg hb).symm.trans z
        cases z'
    · by_cases hb : b = a
      · exact hb
      · exact absurd (if_neg hb) z
end L2
namespace L2
open PySem PySem.Spec PyProof.Rows
noncomputable abbrev KOf {K : PySem.W.Frag} {h : Heap} (_ : K.In h) : PySem.W.Frag := K
theorem walk_of {l : PySem.W.OpenLaw} {n k : Nat} {q : Program} {loose : List Str} {XP : (Str -> Option Value) -> Heap -> Prop} {YP : World -> Heap -> Prop} {d : DefRec} {K : Params -> PySem.W.Frag} {CX : World -> CXT} {sp : World -> Sp} {x : Str}
    (hn : l.most = some n) (hn2 : n <= sizeLine) (hdf : d.params.defaults = []) (hr : Room k callerA)
    (hY : ∀ (w : World) (h : Heap), YP w h -> (K w.params).In h)
    (F : ∀ (w : World) (mg : Str -> Option Value) (fa : Addr) (h : Heap), (K w.params).In h -> h.Ns mainGlobals mg -> mg d.name = some (.ref fa) ->
      ∃ fd : FuncData, (∀ (s : Shared) (u : Value), BindsTo s fd ⟨[u], []⟩ [(x, u)]) /\
        ∀ base : Heap, (K w.params).In base -> base.Ns mainGlobals mg -> FnOk l.prog w (K w.params) mg base (CX w) k fa fd [x] (sp w))
    (hsp : ∀ (w : World) (H : Hp) (a : Addr) (ns : List Int), ns.length <= n -> Only H -> SqL (K w.params) H a (ns.map V.int) -> sp w [.ref a] H (fun v _ => v = .bl true) fun _ _ _ => False)
    (hCX : ∀ (w : World) (H : Hp) (s : Shared) (e : Value) (s' : Shared), CX w [] H s (fun _ _ _ => False) e s' -> False) :
    PySem.W.WalkO q loose XP YP l.row.toRowW d [] (fun f vs => PySem.call f vs) := by
  refine Att.attach_call hn hdf fun w s₀ s₁ mg mb fa o pm cd doc a vs ns G Y ho hd hcd hmg hobj hints hlen hg => ?_
  have KX := hY w _ Y
  obtain ⟨fd, hb, hF⟩ := F w mg fa _ KX G.T.g hmg
  exact z7k KX G.T.g G.T.b G.T.builtins G.T.nolimit hg hobj hints (Nat.le_trans hlen hn2) hr hF hb (fun H hO hS => hsp w H a ns hlen hO hS) fun H e s' => hCX w H s₁ e s'
end L2
/- THE LAST THEOREM (shape; LID, My.* are yours):
   My.Adr: a structure of the addresses that your layer names (classes, functions); My.Txt K t: a structure (Prop) of the equations over K;
   My.txt_mk : {K} {implicit addresses ..} (e1 : nsIn K mainGlobals "law" = some (some (.ref f))) (e2 : K.lookup f = some ⟨oc, od, .func (fnOf "law" "law" params body scope dV kV doc pm an cdv ct), sl⟩) (e3 : codeIn K cdv "law" = true) .. : ∃ t, My.Txt K t
set_option maxRecDepth 100000 in
set_option maxHeartbeats 0 in
theorem PySem.Challenge.cw_LID_holds : PySem.Challenge.rw_LID.Holds := by
  w_on; o_law; k_head; (case hw => w_witness2)
  k_fill
  refine L2.walk_of (l := PySem.Challenge.rw_LID) (n := 63) (k := 40) (x := "script") (CX := fun w => ..) (sp := fun _ => My.sp_law) rfl (by decide) rfl ⟨rfl, by decide, by decide⟩ (fun w h Y => PySem.W.kIn_of Y) ?F ?S ?C
  case F =>
    intro w mg fa h KX G hmg
    have T : ∃ t, My.Txt (L2.KOf KX) t := by
      dsimp only [L2.KOf]                          -- K must stand as «<heap const> w.params» for k_is
      refine' My.txt_mk ?e1 ?e2 ?e3 ..
      (case e1 => PySem.W.k_is)                    -- in the order: a name -> its address -> its object -> its parts
      (case e2 => PySem.W.k_is)
      ..
    obtain ⟨t, T⟩ := T
    have e0 := hmg.symm.trans (PySem.W.mg_of KX G T.law)
    cases e0                                       -- fa is the law's own address
    exact ⟨_, fun s u => .of_eq rfl, fun base kb nb => My.law_fn T kb nb⟩     -- if «.of_eq rfl» comes too early: refine' ⟨_, ?b, fun base kb nb => My.law_fn T kb nb⟩; exact fun s u => .of_eq rfl
  case S => exact fun w H a ns hl hO hS => ..
  case C => exact ..
(the tactic k_is has no namespace: write k_is) -/
namespace L2
open PySem PySem.Spec PyProof.Rows
noncomputable def z0o (s : Stmt) : Arguments := match s with
  | .FunctionDef _ a _ _ _ _ _ _ _ _ => a
  | _ => { posonlyargs := [], args := [], vararg := none, kwonlyargs := [], kw_defaults := [], kwarg := none, defaults := [] }
noncomputable def z0h (s : Stmt) : List Stmt := match s with
  | .FunctionDef _ _ b _ _ _ _ _ _ _ => b
  | _ => []
noncomputable def z0b (s : Stmt) : Scope := match s with
  | .FunctionDef _ _ _ _ _ _ sc _ _ _ => sc
  | _ => { kind := .function, names := [], isGenerator := false, isCoroutine := false }
noncomputable abbrev CX0 : CXT := fun _ _ _ _ _ _ => False
structure Fun (K : PySem.W.Frag) (x qual : Str) (st : Stmt) (f : Addr) (fd : FuncData) : Prop where
  ex : ∃ (oc : Value) (od : Option Addr) (kV doc pm : Value) (an : Option Addr) (cdv ct : Value) (osl : Array (Option Value)),
    fd = PySem.W.fnOf x qual (z0o st) (z0h st) (z0b st) .none kV doc pm an cdv ct /\ K.lookup f = some ⟨oc, od, .func fd, osl⟩ /\ PySem.W.codeIn K cdv qual = true
  kp : PySem.W.keepIn K (.ref f) = true
section
variable {P : Program} {w : World} {K : PySem.W.Frag} {mg : Str -> Option Value} {base : Heap}
theorem Fun.ok {x qual : Str} {st : Stmt} {f : Addr} {fd : FuncData} {N ps : List Str} {k : Nat} {sp : Sp} (F : Fun K x qual st f fd) (S : FnScope N ps (z0b st)) (len : ∀ vs H Q E, sp vs H Q E -> vs.length = ps.length)
    (hbody : ∀ (cdv : Value) (A : Around) (outer : List Env) (s : Shared) (H : Hp) (vs : List V) (Q : VK) (E : XK), Room k (A.deeper (envOfC qual (z0b st) s.heap.objs.size f cdv)) -> sp vs H Q E ->
      ∃ t, PSs (cxOf CX0 P w K mg base N qual (z0b st) f cdv A outer s H E).nox (z0h st) t /\ t { nx := fun _ H' => Q .non H', rt := Q } (start N vs) H) : FnOk P w K mg base CX0 (k + 1) f fd ps sp := by
  obtain ⟨oc, od, kV, doc, pm, an, cdv, ct, osl, rfl, lk, hcd⟩ := F.ex
  refine z9w lk hcd S len fun A outer s H vs Q E hr hsp => ?_
  obtain ⟨t, h, q⟩ := hbody cdv A outer s H vs Q E hr hsp
  exact ⟨t, h.nox, q⟩
theorem Fun.binds {x qual : Str} {st : Stmt} {f : Addr} {fd : FuncData} {ps : List Str} (F : Fun K x qual st f fd)
    (h : ∀ (kV doc pm : Value) (an : Option Addr) (cdv ct : Value) (us : List Value), us.length = ps.length -> bindArgs (PySem.W.fnOf x qual (z0o st) (z0h st) (z0b st) .none kV doc pm an cdv ct) ⟨us, []⟩ = pure (ps.zip us)) : z1l K fd ps [] := by
  obtain ⟨oc, od, kV, doc, pm, an, cdv, ct, osl, rfl, lk, hcd⟩ := F.ex
  exact .all (h kV doc pm an cdv ct)
theorem z1v {x qual : Str} {st : Stmt} {f : Addr} {oc : Value} {od an : Option Addr} {osl : Array (Option Value)} {kV doc pm cdv ct : Value} (l : K.lookup f = some ⟨oc, od, .func (PySem.W.fnOf x qual (z0o st) (z0h st) (z0b st) .none kV doc pm an cdv ct), osl⟩)
    (c : PySem.W.codeIn K cdv qual = true) (k : PySem.W.keepIn K (.ref f) = true) : Fun K x qual st f (PySem.W.fnOf x qual (z0o st) (z0h st) (z0b st) .none kV doc pm an cdv ct) := ⟨⟨oc, od, kV, doc, pm, an, cdv, ct, osl, rfl, l, c⟩, k⟩
end
theorem z5t {n : Nat} (h : n <= 1000) : n < sizeLine := Nat.lt_of_le_of_lt h (by decide)
section
variable {X : Cx}
end
noncomputable def Same (H H' : Hp) : Prop := ∀ b o, H b = some o -> H' b = some o
theorem Same.refl (H : Hp) : Same H H := fun _ _ h => h
theorem Same.trans {H H1 H2 : Hp} (a : Same H H1) (b : Same H1 H2) : Same H H2 := fun c o h => b c o (a c o h)
theorem Same.free {H H' : Hp} (e : Same H H') {l : Addr} (h : H' l = Option.none) : H l = Option.none := by
  cases q : H l with
  | none => rfl
  | some o =>
    rw [e l o q] at h
    cases h
theorem Same.seq {K : PySem.W.Frag} {H H' : Hp} {a : Addr} {xs : List V} (e : Same H H') (h : SqL K H a xs) : SqL K H' a xs := by
  rcases h with (h | ⟨o, h⟩) | h
  · exact .inl (.inl (e _ _ h))
  · exact .inl (.inr ⟨o, e _ _ h⟩)
  · exact .inr h
end L2
namespace L3
open PySem
noncomputable section
inductive Er where
  | noPrime | noNumber | noProgram | tooLong | lossy | noText
  deriving DecidableEq
noncomputable def Er.nm : Er -> Str
  | .noPrime => "NoPrime" | .noNumber => "NoNumber" | .noProgram => "NoProgram" | .tooLong => "TooLong" | .lossy => "Lossy" | .noText => "NoText"
inductive D where
  | non | bl (b : Bool) | int (i : Int) | str (x : Str) | tup (ds : List D) | lst (ds : List D) | dct | exc (c : Er)
mutual
noncomputable def D.noL : D -> Bool
  | .lst _ => false
  | .dct => false
  | .tup ds => D.noLs ds
  | _ => true
noncomputable def D.noLs : List D -> Bool
  | [] => true
  | d :: ds => d.noL && D.noLs ds
end
theorem z4u : D.noLs [] = true := by unfold D.noLs; rfl
theorem z4v : ∀ ds : List D, D.noLs ds = ds.all D.noL
  | [] => by unfold D.noLs; rfl
  | d :: ds => by unfold D.noLs; rw [z4v ds]; rfl
theorem z2h (i : Int) : D.noL (.int i) = true := by simp [D.noL]
theorem z4w (i : Bool) : D.noL (.bl i) = true := by simp [D.noL]
theorem z6f (i : Str) : D.noL (.str i) = true := by simp [D.noL]
theorem z6g : D.noL .non = true := by simp [D.noL]
theorem z9i (ds : List D) : D.noL (.tup ds) = D.noLs ds := by simp [D.noL]
theorem z9h {ds : List D} (h : ∀ d ∈ ds, d.noL = true) : D.noLs ds = true := by rw [z4v, List.all_eq_true]; exact h
theorem z7i {α : Type} {f : α -> D} {l : List α} (h : ∀ x ∈ l, (f x).noL = true) : D.noLs (l.map f) = true := z9h fun d hd => by
  obtain ⟨x, hx, rfl⟩ := List.mem_map.mp hd; exact h x hx
theorem z1q (ns : List Int) : D.noLs (ns.map D.int) = true := z7i fun _ _ => z2h _
theorem z3b (ns : List Int) : D.noL (.tup (ns.map D.int)) = true := by rw [z9i]; exact z1q ns
inductive R (α : Type) where
  | no | ok (a : α) | er (c : Er)
noncomputable def R.bind {α β : Type} (r : R α) (k : α -> R β) : R β := match r with
  | .no => .no
  | .ok a => k a
  | .er c => .er c
noncomputable instance : Monad R where
  pure := R.ok
  bind := R.bind
@[simp] theorem R.bind_no {α β : Type} (k : α -> R β) : (R.no >>= k) = R.no := rfl
@[simp] theorem R.bind_ok {α β : Type} (a : α) (k : α -> R β) : (R.ok a >>= k) = k a := rfl
@[simp] theorem R.bind_er {α β : Type} (c : Er) (k : α -> R β) : (R.er c >>= k) = R.er c := rfl
@[simp] theorem R.pure_ok {α : Type} (a : α) : (pure a : R α) = R.ok a := rfl
theorem R.left {α β : Type} {r : R α} {k : α -> R β} (h : (r >>= k) ≠ .no) : r ≠ .no := fun e => h (by rw [e]; rfl)
theorem R.next {α β : Type} {r : R α} {k : α -> R β} {a : α} (h : (r >>= k) ≠ .no) (e : r = .ok a) : k a ≠ .no := by
  rw [e] at h; exact h
theorem R.step {α β : Type} {r : R α} {a : α} (e : r = .ok a) (k : α -> R β) : (r >>= k) = k a := by rw [e]; rfl
theorem R.stop {α β : Type} {r : R α} {c : Er} (e : r = .er c) (k : α -> R β) : (r >>= k) = .er c := by rw [e]; rfl
noncomputable def R.guard {α : Type} (p : Prop) (r : R α) : R α := @ite _ p (Classical.propDecidable p) r .no
theorem R.guard_pos {α : Type} {p : Prop} {r : R α} (h : p) : R.guard p r = r := if_pos h
theorem R.guard_ne {α : Type} {p : Prop} {r : R α} (h : R.guard p r ≠ .no) : p /\ R.guard p r = r := by
  unfold R.guard at h ⊢
  by_cases q : p
  · exact ⟨q, if_pos q⟩
  · rw [if_neg q] at h; exact absurd rfl h
theorem z2t {α : Type} {r : R α} : R.guard True r = r := R.guard_pos trivial
theorem z3e {α : Type} {p : Prop} {r : R α} (h : p) : R.guard p r = r := R.guard_pos h
inductive En where
  | no | ro (d : D) | own (ds : List D)
noncomputable abbrev G := List En
noncomputable def lk (Γ : G) (i : Nat) : R D := match Γ[i]? with
  | some (.ro d) => .ok d
  | some (.own ds) => .ok (.lst ds)
  | _ => .no
noncomputable def lkr (Γ : G) (i : Nat) : R D := match Γ[i]? with
  | some (.ro d) => .ok d
  | _ => .no
theorem y2p {Γ : G} {i : Nat} (h : lk Γ i ≠ .no) : ∃ d, lk Γ i = .ok d := by
  cases e : lk Γ i with
  | no => exact absurd e h
  | ok d => exact ⟨d, rfl⟩
  | er c =>
    unfold lk at e
    cases q : Γ[i]? with
    | none => rw [q] at e; cases e
    | some en => rw [q] at e; cases en <;> cases e
theorem y1f {Γ : G} {i : Nat} (h : lkr Γ i ≠ .no) : ∃ d, lkr Γ i = .ok d := by
  cases e : lkr Γ i with
  | no => exact absurd e h
  | ok d => exact ⟨d, rfl⟩
  | er c =>
    unfold lkr at e
    cases q : Γ[i]? with
    | none => rw [q] at e; cases e
    | some en => rw [q] at e; cases en <;> cases e
theorem y1g (d : D) (Γ : G) : lk (En.ro d :: Γ) 0 = .ok d := rfl
theorem z8c (ds : List D) (Γ : G) : lk (En.own ds :: Γ) 0 = .ok (.lst ds) := rfl
theorem z6k (e : En) (Γ : G) (i : Nat) : lk (e :: Γ) (i + 1) = lk Γ i := rfl
theorem z8b (d : D) (Γ : G) : lkr (En.ro d :: Γ) 0 = .ok d := rfl
theorem z4y (e : En) (Γ : G) (i : Nat) : lkr (e :: Γ) (i + 1) = lkr Γ i := rfl
noncomputable def gV (i : Nat) : G -> R D := fun Γ => lk Γ i
noncomputable def gVr (i : Nat) : G -> R D := fun Γ => lkr Γ i
noncomputable def gC (d : D) : G -> R D := fun _ => .ok d
noncomputable def gNL (g : G -> R D) : G -> R D := fun Γ => g Γ >>= fun d => R.guard (d.noL = true) (.ok d)
noncomputable def gL (g : G -> R (List D)) : G -> R D := fun Γ => g Γ >>= fun ds => .ok (.lst ds)
noncomputable def gBin (g : D -> D -> R D) (ga gb : G -> R D) : G -> R D := fun Γ => ga Γ >>= fun x => gb Γ >>= fun y => g x y
noncomputable def asB (d : D) : R Bool := match d with
  | .bl b => .ok b
  | _ => .no
theorem z7d {d : D} (h : asB d ≠ .no) : ∃ b, d = .bl b /\ asB d = .ok b := by
  cases d <;> first | exact ⟨_, rfl, rfl⟩ | exact absurd rfl h
theorem z8m (b : Bool) : asB (.bl b) = .ok b := rfl
noncomputable def gT (g : G -> R D) : G -> R Bool := fun Γ => g Γ >>= asB
noncomputable def gOr (ga gb : G -> R Bool) : G -> R Bool := fun Γ => ga Γ >>= fun k => if k = true then .ok true else gb Γ
noncomputable def gNot (ga : G -> R Bool) : G -> R Bool := fun Γ => ga Γ >>= fun k => .ok (!k)
noncomputable def z7o (ga gb : G -> R D) : G -> R D := fun Γ => ga Γ >>= fun d => asB d >>= fun k => if k = true then gb Γ else .ok (.bl false)
noncomputable def z7n (ga : G -> R D) : G -> R D := fun Γ => ga Γ >>= fun d => asB d >>= fun k => .ok (.bl (!k))
noncomputable def dNeg (d : D) : R D := match d with | .int i => .ok (.int (-i)) | _ => .no
noncomputable def gNeg (ga : G -> R D) : G -> R D := fun Γ => ga Γ >>= dNeg
noncomputable def gNil : G -> R (List D) := fun _ => .ok []
noncomputable def gCons (g : G -> R D) (gs : G -> R (List D)) : G -> R (List D) := fun Γ => g Γ >>= fun d => gs Γ >>= fun ds => .ok (d :: ds)
noncomputable def z9v (ns : List Int) : G -> R (List D) := fun _ => .ok (ns.map D.int)
noncomputable def gLst (gs : G -> R (List D)) : G -> R (List D) := fun Γ => gs Γ >>= fun ds => R.guard (ds.length <= 1000 /\ D.noLs ds = true) (.ok ds)
noncomputable def z3v (i : Int) : Prop := -18446744073709551616 < i /\ i < 18446744073709551616
noncomputable instance (i : Int) : Decidable (z3v i) := by unfold z3v; exact inferInstance
noncomputable def z1j (i j : Int) : Prop := z3v i ∨ z3v j
noncomputable instance (i j : Int) : Decidable (z1j i j) := by unfold z1j; exact inferInstance
noncomputable def z8r (j : Int) : Prop := -4611686018427387904 <= j /\ j < 4611686018427387904
noncomputable instance (j : Int) : Decidable (z8r j) := by unfold z8r; exact inferInstance
theorem z1h {j : Int} (h : -4611686018427387904 <= j /\ j < 4611686018427387904) : z8r j := h
theorem z2d {j : Int} (h : -18446744073709551616 < j /\ j < 18446744073709551616) : z3v j := h
theorem z3o {i j : Int} (h : z3v i) : z1j i j := .inl h
theorem z3n {i j : Int} (h : z3v j) : z1j i j := .inr h
noncomputable def dAdd (x y : D) : R D := match x, y with
  | .int i, .int j => .ok (.int (i + j))
  | .tup xs, .tup ys => R.guard (xs.length + ys.length <= 1000) (.ok (.tup (xs ++ ys)))
  | _, _ => .no
noncomputable def dMul (x y : D) : R D := match x, y with
  | .int i, .int j => R.guard (z1j i j) (.ok (.int (i * j)))
  | .tup xs, .int j => R.guard (0 <= j /\ j < 1000000 /\ xs.length * j.toNat <= 1000) (.ok (.tup (List.replicate j.toNat xs).flatten))
  | _, _ => .no
noncomputable def dDiv (x y : D) : R D := match x, y with
  | .int i, .int j => R.guard (0 < j /\ j < 1073741824) (.ok (.int (i / j)))
  | _, _ => .no
noncomputable def dMod (x y : D) : R D := match x, y with
  | .int i, .int j => R.guard (0 < j) (.ok (.int (i % j)))
  | _, _ => .no
noncomputable def dPow (x y : D) : R D := match x, y with
  | .int i, .int j => R.guard (0 <= j /\ j <= 1000000 /\ i.natAbs < 18446744073709551616) (.ok (.int (i ^ j.toNat)))
  | _, _ => .no
noncomputable def dLt (x y : D) : R D := match x, y with
  | .int i, .int j => .ok (.bl (decide (i < j)))
  | _, _ => .no
noncomputable def dLe (x y : D) : R D := match x, y with
  | .int i, .int j => .ok (.bl (decide (i <= j)))
  | _, _ => .no
noncomputable def dGt (x y : D) : R D := match x, y with
  | .int i, .int j => .ok (.bl (decide (j < i)))
  | _, _ => .no
noncomputable def sOk (x : Str) : Bool := x.cps.all (· < 0x110000)
mutual
noncomputable def D.lay : Nat -> D -> Bool
  | n + 1, .tup ds => D.lays n ds
  | n + 1, .lst ds => D.lays n ds
  | 0, .tup _ => false
  | 0, .lst _ => false
  | _, .dct => false
  | _, .exc _ => false
  | _, .str x => sOk x
  | _, _ => true
noncomputable def D.lays : Nat -> List D -> Bool
  | _, [] => true
  | n, d :: ds => D.lay n d && D.lays n ds
end
theorem D.lays_all (n : Nat) : ∀ ds : List D, D.lays n ds = ds.all (D.lay n)
  | [] => by unfold D.lays; rfl
  | d :: ds => by unfold D.lays; rw [D.lays_all n ds]; rfl
theorem z4i (n : Nat) (i : Int) : D.lay n (.int i) = true := by cases n <;> simp [D.lay]
theorem z8d (n : Nat) (i : Bool) : D.lay n (.bl i) = true := by cases n <;> simp [D.lay]
theorem z9l (n : Nat) (x : Str) : D.lay n (.str x) = sOk x := by cases n <;> simp [D.lay]
theorem z9k (n : Nat) (ds : List D) : D.lay (n + 1) (.tup ds) = ds.all (D.lay n) := by rw [D.lay, D.lays_all]
theorem z3c (n : Nat) (ns : List Int) : D.lay (n + 1) (.tup (ns.map D.int)) = true := by
  rw [z9k, List.all_map, List.all_eq_true]; intro x _; exact z4i n x
mutual
noncomputable def eqD : D -> D -> Bool
  | .non, y => (match y with | .non => true | _ => false)
  | .bl a, y => (match y with | .bl b => a == b | .int j => (if a then 1 else 0) == j | _ => false)
  | .int i, y => (match y with | .bl b => i == (if b then 1 else 0) | .int j => i == j | _ => false)
  | .str x, y => (match y with | .str z => x == z | _ => false)
  | .tup xs, y => (match y with | .tup ys => eqDs xs ys | _ => false)
  | .lst xs, y => (match y with | .lst ys => eqDs xs ys | _ => false)
  | .dct, _ => false
  | .exc _, _ => false
noncomputable def eqDs : List D -> List D -> Bool
  | [], [] => true
  | x :: xs, y :: ys => eqD x y && eqDs xs ys
  | [], _ :: _ => false
  | _ :: _, [] => false
end
theorem z6z (i j : Int) : eqD (.int i) (.int j) = (i == j) := by rw [eqD]
theorem z8k (i j : Bool) : eqD (.bl i) (.bl j) = (i == j) := by rw [eqD]
mutual
noncomputable def D.pl : D -> Bool
  | .bl _ => false
  | .dct => false
  | .exc _ => false
  | .tup ds => D.pls ds
  | .lst ds => D.pls ds
  | _ => true
noncomputable def D.pls : List D -> Bool
  | [] => true
  | d :: ds => d.pl && D.pls ds
end
theorem z6b : ∀ ds : List D, D.pls ds = ds.all D.pl
  | [] => by unfold D.pls; rfl
  | d :: ds => by unfold D.pls; rw [z6b ds]; rfl
theorem y0m (i : Int) : D.pl (.int i) = true := by simp [D.pl]
theorem y0l (ds : List D) : D.pl (.tup ds) = ds.all D.pl := by rw [D.pl, z6b]
theorem z8v (ns : List Int) : D.pl (.tup (ns.map D.int)) = true := by
  rw [y0l, List.all_map, List.all_eq_true]; intro x _; exact y0m x
mutual
theorem z4j : ∀ (x y : D), x.pl = true -> y.pl = true -> (eqD x y = true ↔ x = y)
  | .non, y, _, hy => by cases y <;> simp_all [eqD, D.pl]
  | .bl _, y, hx, hy => by simp [D.pl] at hx
  | .int i, y, _, hy => by cases y <;> simp_all [eqD, D.pl]
  | .str i, y, _, hy => by cases y <;> simp_all [eqD, D.pl]
  | .dct, y, hx, hy => by simp [D.pl] at hx
  | .exc _, y, hx, hy => by simp [D.pl] at hx
  | .tup xs, y, hx, hy => by
    cases y with
    | tup ys => rw [eqD, eqDs_iff xs ys (by simpa [D.pl] using hx) (by simpa [D.pl] using hy)]; simp
    | _ => simp_all [eqD, D.pl]
  | .lst xs, y, hx, hy => by
    cases y with
    | lst ys => rw [eqD, eqDs_iff xs ys (by simpa [D.pl] using hx) (by simpa [D.pl] using hy)]; simp
    | _ => simp_all [eqD, D.pl]
theorem eqDs_iff : ∀ (xs ys : List D), D.pls xs = true -> D.pls ys = true -> (eqDs xs ys = true ↔ xs = ys)
  | [], [], _, _ => by simp [eqDs]
  | [], y :: ys, _, _ => by simp [eqDs]
  | x :: xs, [], _, _ => by simp [eqDs]
  | x :: xs, y :: ys, hx, hy => by
    have hx' : x.pl = true /\ D.pls xs = true := by simpa [D.pls] using hx
    have hy' : y.pl = true /\ D.pls ys = true := by simpa [D.pls] using hy
    rw [eqDs, Bool.and_eq_true, z4j x y hx'.1 hy'.1, eqDs_iff xs ys hx'.2 hy'.2]; simp
end
theorem z9x {x y : D} (hx : x.pl = true) (hy : y.pl = true) {p : Prop} [Decidable p] (h : x = y ↔ p) : eqD x y = decide p := by
  by_cases q : p
  · rw [decide_eq_true q]; exact (z4j x y hx hy).mpr (h.mpr q)
  · rw [decide_eq_false q]
    cases e : eqD x y with
    | false => rfl
    | true => exact absurd (h.mp ((z4j x y hx hy).mp e)) q
noncomputable def dEq (x y : D) : R D := R.guard (D.lay 40 x = true /\ D.lay 40 y = true) (.ok (.bl (eqD x y)))
noncomputable def dNe (x y : D) : R D := R.guard (D.lay 40 x = true /\ D.lay 40 y = true) (.ok (.bl (!eqD x y)))
noncomputable def ixN (n : Nat) (i : Int) : Option Nat := if 0 <= i then (if i < n then some i.toNat else none) else if -(n : Int) <= i then some (i + n).toNat else none
noncomputable def atI {α : Type} (xs : List α) (i : Int) : Option α := (ixN xs.length i).bind fun j => xs[j]?
theorem z1g {α : Type} {ds : List α} (i : Nat) : atI ds (i : Int) = ds[i]? := by
  unfold atI ixN
  rw [if_pos (by omega)]
  by_cases h : (i : Int) < ds.length
  · rw [if_pos h]; simp
  · rw [if_neg h]
    have : ds.length <= i := by omega
    rw [List.getElem?_eq_none this]; rfl
theorem y2c {α : Type} {ds : List α} {i : Int} (h : 0 <= i) : atI ds i = ds[i.toNat]? := by
  obtain ⟨n, rfl⟩ : ∃ n : Nat, i = (n : Int) := ⟨i.toNat, by omega⟩
  rw [z1g]; rfl
theorem y0d {α : Type} {ds : List α} {i : Int} (h : i < 0) (h2 : -(ds.length : Int) <= i) : atI ds i = ds[(i + ds.length).toNat]? := by
  unfold atI ixN
  rw [if_neg (by omega), if_pos h2]; rfl
theorem z4d {α : Type} (a : α) (ds : List α) : atI (a :: ds) 0 = some a := z1g 0
theorem z5f {α : Type} (a b : α) (ds : List α) : atI (a :: b :: ds) 1 = some b := z1g 1
theorem z5e {α : Type} (a b c : α) (ds : List α) : atI (a :: b :: c :: ds) 2 = some c := z1g 2
theorem z2w {α : Type} (a b c d : α) (ds : List α) : atI (a :: b :: c :: d :: ds) 3 = some d := z1g 3
noncomputable def dIx (x y : D) : R D := match x, y with
  | .tup ds, .int i => (match atI ds i with | some d => .ok d | none => .no)
  | .lst ds, .int i => (match atI ds i with | some d => .ok d | none => .no)
  | _, _ => .no
noncomputable def sIx (n d : Nat) : Option Int -> Nat
  | none => d
  | some v => if v < 0 then (v + (n : Int)).toNat else min v.toNat n
theorem sIx_none (n d : Nat) : sIx n d none = d := rfl
theorem sIx_nat (n d k : Nat) : sIx n d (some (k : Int)) = min k n := by
  show (if (k : Int) < 0 then ((k : Int) + (n : Int)).toNat else min (k : Int).toNat n) = min k n
  rw [if_neg (by omega), Int.toNat_natCast]
noncomputable def cutL {α : Type} (xs : List α) (lo hi : Option Int) : List α := (xs.drop (sIx xs.length 0 lo)).take (sIx xs.length xs.length hi - sIx xs.length 0 lo)
noncomputable def gON : G -> R (Option Int) := fun _ => .ok none
noncomputable def dOS (d : D) : R (Option Int) := match d with | .int i => .ok (some i) | _ => .no
noncomputable def gOS (g : G -> R D) : G -> R (Option Int) := fun Γ => g Γ >>= dOS
noncomputable def z7q (d : D) (lo hi : Option Int) : R (List D) := match d with
  | .lst xs => R.guard (D.noLs (cutL xs lo hi) = true) (.ok (cutL xs lo hi))
  | _ => .no
noncomputable def gSlF (ga : G -> R D) (lo hi : G -> R (Option Int)) : G -> R (List D) := fun Γ => ga Γ >>= fun d => lo Γ >>= fun l => hi Γ >>= fun h => z7q d l h
theorem z7r {α β : Type} (f : α -> β) (xs : List α) (lo hi : Option Int) : cutL (xs.map f) lo hi = (cutL xs lo hi).map f := by
  unfold cutL; rw [List.length_map, List.map_take, List.map_drop]
theorem z7a {α : Type} (xs : List α) (k : Nat) : cutL xs (some (k : Int)) none = xs.drop k := by
  unfold cutL
  rw [sIx_none, sIx_nat]
  by_cases h : k <= xs.length
  · rw [Nat.min_eq_left h, List.take_of_length_le (by rw [List.length_drop]; omega)]
  · rw [Nat.min_eq_right (by omega), List.drop_length, List.drop_of_length_le (by omega)]; simp
inductive Cl where
  | noPrime | noNumber | noProgram | tooLong | lossy | noText | longError | valueError
noncomputable def z1s (g : List D -> R D) (gs : G -> R (List D)) : G -> R D := fun Γ => gs Γ >>= g
noncomputable def dLen (ds : List D) : R D := match ds with
  | [.tup xs] => .ok (.int xs.length)
  | [.lst xs] => .ok (.int xs.length)
  | _ => .no
noncomputable def noEr (φ : List D -> R D) : List D -> R D := fun ds => match φ ds with
  | .ok d => .ok d
  | _ => .no
theorem z9j {φ : List D -> R D} {ds : List D} (h : noEr φ ds ≠ .no) : ∃ d, φ ds = .ok d /\ noEr φ ds = .ok d := by
  unfold noEr at h ⊢
  cases q : φ ds with
  | ok d => exact ⟨d, rfl, rfl⟩
  | no => rw [q] at h; exact absurd rfl h
  | er c => rw [q] at h; exact absurd rfl h
noncomputable def z5b (φ : List D -> R (List D)) (gs : G -> R (List D)) : G -> R (List D) := fun Γ => gs Γ >>= fun ds => φ ds >>= fun es => R.guard (D.noLs es = true) (.ok es)
noncomputable def D.ty : D -> String
  | .non => "NoneType"
  | .bl _ => "bool"
  | .int _ => "int"
  | .str _ => "str"
  | .tup _ => "tuple"
  | .lst _ => "list"
  | .dct => "dict"
  | .exc _ => ""
noncomputable def D.noX : D -> Bool
  | .exc _ => false
  | _ => true
noncomputable def dIsi (f : String -> Bool) (d : D) : R D := match d with
  | .exc _ => .no
  | d => .ok (.bl (f d.ty))
noncomputable def gIsi (f : String -> Bool) (g : G -> R D) : G -> R D := fun Γ => g Γ >>= dIsi f
theorem z9y {f : String -> Bool} {d : D} (h : dIsi f d ≠ .no) : d.noX = true /\ dIsi f d = .ok (.bl (f d.ty)) := by
  cases d <;> first | exact ⟨rfl, rfl⟩ | exact absurd rfl h
noncomputable def z3w (t : String) : Bool := t == "int" || t == "bool"
noncomputable def z2n (t : String) : Bool := t == "bool"
noncomputable def z2m (t : String) : Bool := t == "list"
noncomputable def dSeq (d : D) : R (List D) := match d with
  | .tup ds => .ok ds
  | .lst ds => .ok ds
  | _ => .no
noncomputable def gSeq (g : G -> R D) : G -> R (List D) := fun Γ => g Γ >>= dSeq
inductive Fl where
  | nx (Γ : G) | rt (d : D) | rtF (ds : List D) | bk (Γ : G) | ct (Γ : G) | ex (c : Er) (Γ : G)
noncomputable def lift {α : Type} (r : R α) (Γ : G) (k : α -> R Fl) : R Fl := match r with
  | .no => .no
  | .er c => .ok (.ex c Γ)
  | .ok a => k a
theorem z0u {α : Type} {r : R α} {Γ : G} {k : α -> R Fl} (h : lift r Γ k ≠ .no) : r ≠ .no := fun e => h (by rw [e]; rfl)
theorem z1k {α : Type} {r : R α} {Γ : G} {k : α -> R Fl} {a : α} (e : r = .ok a) : lift r Γ k = k a := by rw [e]; rfl
theorem z6m {α : Type} {r : R α} {Γ : G} {k : α -> R Fl} {a : α} (h : lift r Γ k ≠ .no) (e : r = .ok a) : k a ≠ .no := by rw [e] at h; exact h
theorem z1r {α : Type} (a : α) (Γ : G) (k : α -> R Fl) : lift (.ok a) Γ k = k a := rfl
theorem z4z {α : Type} (c : Er) (Γ : G) (k : α -> R Fl) : lift (.er c : R α) Γ k = .ok (.ex c Γ) := rfl
noncomputable def frz (i : Nat) (Γ : G) : G := match Γ[i]? with
  | some (.own ds) => Γ.set i (.ro (.lst ds))
  | _ => Γ
noncomputable def z1b : G -> R Fl := fun Γ => .ok (.nx Γ)
noncomputable def gSt (t u : G -> R Fl) : G -> R Fl := fun Γ => t Γ >>= fun r => match r with
  | .nx Γ' => u Γ'
  | r => .ok r
noncomputable def z6u (i : Nat) : G -> R Fl := fun Γ => match Γ[i]? with
  | some (.own ds) => .ok (.rtF ds)
  | _ => .no
noncomputable def gRet (g : G -> R D) : G -> R Fl := fun Γ => lift (g Γ) Γ fun d => .ok (.rt d)
noncomputable def gIfS (gc : G -> R Bool) (t u : G -> R Fl) : G -> R Fl := fun Γ => lift (gc Γ) Γ fun k => if k = true then t Γ else u Γ
noncomputable def gSet (i : Nat) (g : G -> R D) : G -> R Fl := fun Γ => lift (g Γ) Γ fun d => .ok (.nx (Γ.set i (.ro d)))
noncomputable def z3s (i : Nat) (g : G -> R (List D)) : G -> R Fl := fun Γ => lift (g Γ) Γ fun ds => .ok (.nx (Γ.set i (.own ds)))
noncomputable def gApp (i : Nat) (g : G -> R D) : G -> R Fl := fun Γ => match Γ[i]? with
  | some (.own ds) => lift (g Γ) Γ fun d => R.guard (ds.length <= 100000) (.ok (.nx (Γ.set i (.own (ds ++ [d])))))
  | _ => .no
noncomputable def z0n (gb : G -> R Fl) (i : Nat) : List D -> G -> R Fl
  | [], Γ => .ok (.nx Γ)
  | d :: r, Γ => match gb (Γ.set i (.ro d)) with
    | .ok (.nx Γ') => z0n gb i r Γ'
    | .ok (.ct Γ') => z0n gb i r Γ'
    | .ok (.bk Γ') => .ok (.nx Γ')
    | .ok (.rt d) => .ok (.rt d)
    | .ok (.rtF d) => .ok (.rtF d)
    | .ok (.ex c Γ') => .ok (.ex c Γ')
    | _ => .no
noncomputable def gFor (i : Nat) (gi : G -> R (List D)) (gb : G -> R Fl) : G -> R Fl := fun Γ => lift (gi Γ) Γ fun ds => z0n gb i ds Γ
noncomputable def whGo (gc : G -> R Bool) (gb : G -> R Fl) : Nat -> G -> R Fl
  | 0, _ => .no
  | n + 1, Γ => lift (gc Γ) Γ fun k => if k = true then (match gb Γ with
      | .ok (.nx Γ') => whGo gc gb n Γ'
      | .ok (.ct Γ') => whGo gc gb n Γ'
      | .ok (.bk Γ') => .ok (.nx Γ')
      | .ok (.rt d) => .ok (.rt d)
      | .ok (.rtF d) => .ok (.rtF d)
      | .ok (.ex c Γ') => .ok (.ex c Γ')
      | _ => .no) else .ok (.nx Γ)
theorem z3t (gb : G -> R Fl) (i : Nat) (Γ : G) : z0n gb i [] Γ = .ok (.nx Γ) := rfl
theorem z2u (gb : G -> R Fl) (i : Nat) (d : D) (ds : List D) (Γ : G) : z0n gb i (d :: ds) Γ = match gb (Γ.set i (.ro d)) with
    | .ok (.nx Γ') => z0n gb i ds Γ'
    | .ok (.ct Γ') => z0n gb i ds Γ'
    | .ok (.bk Γ') => .ok (.nx Γ')
    | .ok (.rt d) => .ok (.rt d)
    | .ok (.rtF d) => .ok (.rtF d)
    | .ok (.ex c Γ') => .ok (.ex c Γ')
    | _ => .no := rfl
theorem z2k {gb : G -> R Fl} {i : Nat} (I : Nat -> G -> Prop) : ∀ (ds : List D) (k : Nat) (Γ : G), I k Γ ->
    (∀ (j : Nat) (d : D) (Γ : G), ds[j]? = some d -> I (k + j) Γ -> ∃ Γ', (gb (Γ.set i (.ro d)) = .ok (.nx Γ') ∨ gb (Γ.set i (.ro d)) = .ok (.ct Γ')) /\ I (k + j + 1) Γ') ->
    ∃ Γ', z0n gb i ds Γ = .ok (.nx Γ') /\ I (k + ds.length) Γ'
  | [], k, Γ, h, _ => ⟨Γ, rfl, h⟩
  | d :: ds, k, Γ, h, q => by
    obtain ⟨Γ1, e1, h1⟩ := q 0 d Γ rfl h
    obtain ⟨Γ2, e2, h2⟩ := z2k I ds (k + 1) Γ1 h1 fun j d' Γ' hd hI => by
      have := q (j + 1) d' Γ' (by simpa using hd) (by rw [show k + (j + 1) = k + 1 + j by omega]; exact hI)
      rw [show k + (j + 1) = k + 1 + j by omega] at this
      exact this
    refine ⟨Γ2, ?_, by rw [List.length_cons, show k + (ds.length + 1) = k + 1 + ds.length by omega]; exact h2⟩
    rw [z2u]
    rcases e1 with e1 | e1 <;> rw [e1] <;> exact e2
theorem z5o {gb : G -> R Fl} {i : Nat} (I : G -> Prop) {ds : List D} {Γ : G} (h : I Γ) (q : ∀ d ∈ ds, ∀ Γ, I Γ -> ∃ Γ', (gb (Γ.set i (.ro d)) = .ok (.nx Γ') ∨ gb (Γ.set i (.ro d)) = .ok (.ct Γ')) /\ I Γ') : ∃ Γ', z0n gb i ds Γ = .ok (.nx Γ') /\ I Γ' :=
  z2k (fun _ => I) ds 0 Γ h fun _ d Γ hd hI => q d (List.mem_of_getElem? hd) Γ hI
theorem z5q (gc : G -> R Bool) (gb : G -> R Fl) (n : Nat) (Γ : G) : whGo gc gb (n + 1) Γ = lift (gc Γ) Γ fun k => if k = true then (match gb Γ with
      | .ok (.nx Γ') => whGo gc gb n Γ'
      | .ok (.ct Γ') => whGo gc gb n Γ'
      | .ok (.bk Γ') => .ok (.nx Γ')
      | .ok (.rt d) => .ok (.rt d)
      | .ok (.rtF d) => .ok (.rtF d)
      | .ok (.ex c Γ') => .ok (.ex c Γ')
      | _ => .no) else .ok (.nx Γ) := rfl
theorem z1m {gc : G -> R Bool} {gb : G -> R Fl} (I : Nat -> G -> Prop) (Q : R Fl -> Prop) (q : ∀ m Γ, I m Γ -> (gc Γ = .ok false /\ Q (.ok (.nx Γ))) ∨ (gc Γ = .ok true /\
    ((∃ Γ' m', m' < m /\ (gb Γ = .ok (.nx Γ') ∨ gb Γ = .ok (.ct Γ')) /\ I m' Γ') ∨ (∃ Γ', gb Γ = .ok (.bk Γ') /\ Q (.ok (.nx Γ'))) ∨ (∃ d, gb Γ = .ok (.rt d) /\ Q (.ok (.rt d))) ∨ (∃ d, gb Γ = .ok (.rtF d) /\ Q (.ok (.rtF d))) ∨ (∃ c Γ', gb Γ = .ok (.ex c Γ') /\ Q (.ok (.ex c Γ')))))) :
    ∀ (n m : Nat) (Γ : G), m < n -> I m Γ -> Q (whGo gc gb n Γ)
  | 0, m, Γ, h, _ => absurd h (Nat.not_lt_zero _)
  | n + 1, m, Γ, h, hI => by
    rw [z5q]
    rcases q m Γ hI with ⟨e, hq⟩ | ⟨e, h2⟩
    · rw [e, z1r, if_neg Bool.false_ne_true]; exact hq
    · rw [e, z1r, if_pos rfl]
      rcases h2 with ⟨Γ', m', hm, e', h'⟩ | ⟨Γ', e', h'⟩ | ⟨d, e', h'⟩ | ⟨d, e', h'⟩ | ⟨c, Γ', e', h'⟩
      · rcases e' with e' | e' <;> rw [e'] <;> exact z1m I Q q n m' Γ' (by omega) h'
      · rw [e']; exact h'
      · rw [e']; exact h'
      · rw [e']; exact h'
      · rw [e']; exact h'
noncomputable def ini (n : Nat) (ds : List D) : G := ds.map En.ro ++ List.replicate (n - ds.length) En.no
noncomputable def fin (r : R Fl) : R D := match r with
  | .ok (.rt d) => .ok d
  | .ok (.nx _) => .ok .non
  | .ok (.ex c _) => .er c
  | _ => .no
noncomputable def finF (r : R Fl) : R (List D) := match r with
  | .ok (.rtF d) => .ok d
  | .ok (.ex c _) => .er c
  | _ => .no
noncomputable def fnC (p n : Nat) (g : G -> R Fl) : List D -> R D := fun ds => if ds.length = p then fin (g (ini n ds)) else .no
theorem z0m {p n : Nat} {g : G -> R Fl} {ds : List D} (h : fnC p n g ds ≠ .no) : ds.length = p := by
  unfold fnC at h
  by_cases q : ds.length = p
  · exact q
  · rw [if_neg q] at h; exact absurd rfl h
theorem z1w {p n : Nat} {g : G -> R Fl} {ds : List D} (h : ds.length = p) : fnC p n g ds = fin (g (ini n ds)) := if_pos h
noncomputable def fnF (p n : Nat) (g : G -> R Fl) : List D -> R (List D) := fun ds => if ds.length = p then finF (g (ini n ds)) else .no
theorem z6v {p n : Nat} {g : G -> R Fl} {ds : List D} (h : fnF p n g ds ≠ .no) : ds.length = p := by
  unfold fnF at h
  by_cases q : ds.length = p
  · exact q
  · rw [if_neg q] at h; exact absurd rfl h
theorem z8i {p n : Nat} {g : G -> R Fl} {ds : List D} (h : ds.length = p) : fnF p n g ds = finF (g (ini n ds)) := if_pos h
theorem y1e : ((0 : Nat) : Int) = 0 := rfl
theorem y1d : ((1 : Nat) : Int) = 1 := rfl
theorem y1c : ((2 : Nat) : Int) = 2 := rfl
theorem y1b : ((3 : Nat) : Int) = 3 := rfl
theorem y1a : ((4 : Nat) : Int) = 4 := rfl
end
noncomputable def bigN : Nat := 10 ^ 1000
noncomputable def z4x (i j : Int) : Prop := i.natAbs < bigN /\ j.natAbs < bigN
noncomputable instance (i j : Int) : Decidable (z4x i j) := by unfold z4x; exact inferInstance
noncomputable def frzAt (i : Nat) (Γ : G) : G := match Γ[i]? with
  | some (.own ds) => Γ.set i (.ro (.lst ds))
  | _ => Γ
noncomputable def gFrz (i : Nat) (g : G -> R Fl) : G -> R Fl := fun Γ => g (frzAt i Γ)
end L3
namespace L3
section
variable {Γ Γ' : G} {i : Nat} {g gk : G -> R D} {gs : G -> R (List D)} {gc : G -> R Bool} {t u e gb : G -> R Fl} {r : R Fl} {d k : D} {ds : List D} {c : Er}
theorem z2p (h : t Γ = .ok (.nx Γ')) (h2 : u Γ' = r) : gSt t u Γ = r := by unfold gSt; rw [h]; exact h2
theorem y2a (h : t Γ = .ok (.rt d)) : gSt t u Γ = .ok (.rt d) := by unfold gSt; rw [h]; rfl
theorem z3r (h : g Γ = .ok d) : gSet i g Γ = .ok (.nx (Γ.set i (.ro d))) := by unfold gSet; rw [h]; rfl
theorem y1i (h : gs Γ = .ok ds) : z3s i gs Γ = .ok (.nx (Γ.set i (.own ds))) := by unfold z3s; rw [h]; rfl
theorem y2s (ho : Γ[i]? = some (.own ds)) (h : g Γ = .ok d) (hl : ds.length <= 100000) : gApp i g Γ = .ok (.nx (Γ.set i (.own (ds ++ [d])))) := by
  unfold gApp; rw [ho]; simp only [h, z1r, z3e hl]
theorem y1j (hc : gc Γ = .ok true) (h : t Γ = r) : gIfS gc t u Γ = r := by unfold gIfS; rw [hc]; exact h
theorem y2r (hc : gc Γ = .ok false) (h : u Γ = r) : gIfS gc t u Γ = r := by unfold gIfS; rw [hc]; exact h
theorem z8e (hc : gc Γ = .ok false) : gIfS gc t z1b Γ = .ok (.nx Γ) := y2r hc rfl
theorem z9o (hi : gs Γ = .ok ds) (h : z0n gb i ds Γ = r) : gFor i gs gb Γ = r := by unfold gFor; rw [hi]; exact h
theorem z6q (h : g Γ = .ok d) : gRet g Γ = .ok (.rt d) := by unfold gRet; rw [h]; rfl
theorem z2o (hg : g Γ = .ok d) (h : u (Γ.set i (.ro d)) = r) : gSt (gSet i g) u Γ = r := z2p (z3r hg) h
theorem z7b (hg : gs Γ = .ok ds) (h : u (Γ.set i (.own ds)) = r) : gSt (z3s i gs) u Γ = r := z2p (y1i hg) h
theorem z1t (hc : gc Γ = .ok false) (h : u Γ = r) : gSt (gIfS gc t z1b) u Γ = r := z2p (z8e hc) h
theorem y2b (hc : gc Γ = .ok true) (ht : t Γ = .ok (.nx Γ')) (h : u Γ' = r) : gSt (gIfS gc t e) u Γ = r := z2p (y1j hc ht) h
theorem z8l (hi : gs Γ = .ok ds) (hf : z0n gb i ds Γ = .ok (.nx Γ')) (h : u Γ' = r) : gSt (gFor i gs gb) u Γ = r := z2p (z9o hi hf) h
theorem z2v {p n : Nat} (hl : ds.length = p) (h : t (ini n ds) = .ok (.rt d)) : fnC p n t ds = .ok d := by rw [z1w hl, h]; rfl
theorem y1x {p n : Nat} {es : List D} (hl : ds.length = p) (h : t (ini n ds) = .ok (.rtF es)) : fnF p n t ds = .ok es := by rw [z8i hl, h]; rfl
noncomputable def Ends (r : R Fl) (I : G -> Prop) : Prop := ∃ Γ', (r = .ok (.nx Γ') ∨ r = .ok (.ct Γ')) /\ I Γ'
theorem Ends.nx {I : G -> Prop} {r : R Fl} (h : r = .ok (.nx Γ)) (hI : I Γ) : Ends r I := ⟨Γ, .inl h, hI⟩
theorem forK (I : G -> Prop) (h0 : I Γ) (hq : ∀ d ∈ ds, ∀ Γ, I Γ -> Ends (gb (Γ.set i (.ro d))) I) : ∃ Γ', z0n gb i ds Γ = .ok (.nx Γ') /\ I Γ' := z5o I h0 hq
theorem y0b (I : G -> Prop) (hi : gs Γ = .ok ds) (h0 : I Γ) (hq : ∀ d ∈ ds, ∀ Γ, I Γ -> Ends (gb (Γ.set i (.ro d))) I) (h : ∀ Γ', I Γ' -> u Γ' = r) : gSt (gFor i gs gb) u Γ = r := by
  obtain ⟨Γ', e, h'⟩ := forK I h0 hq
  exact z8l hi e (h Γ' h')
theorem Ends.forK (I : G -> Prop) {J : G -> Prop} (hi : gs Γ = .ok ds) (h0 : I Γ) (hq : ∀ d ∈ ds, ∀ Γ, I Γ -> Ends (gb (Γ.set i (.ro d))) I) (hJ : ∀ Γ, I Γ -> J Γ) : Ends (gFor i gs gb Γ) J := by
  obtain ⟨Γ', e, h'⟩ := L3.forK I h0 hq
  exact .nx (z9o hi e) (hJ _ h')
theorem y0c (I : Nat -> G -> Prop) (hi : gs Γ = .ok ds) (h0 : I 0 Γ) (hq : ∀ (j : Nat) (d : D) (Γ : G), ds[j]? = some d -> I j Γ -> Ends (gb (Γ.set i (.ro d))) (I (j + 1))) (h : ∀ Γ', I ds.length Γ' -> u Γ' = r) : gSt (gFor i gs gb) u Γ = r := by
  obtain ⟨Γ', e, h'⟩ := z2k I ds 0 Γ h0 fun j d Γ hd hI => by rw [Nat.zero_add] at hI ⊢; exact hq j d Γ hd hI
  rw [Nat.zero_add] at h'
  exact z8l hi e (h Γ' h')
end
noncomputable def cg (P a b : Int) : Prop := a % P = b % P
theorem cg.refl {P a : Int} : cg P a a := rfl
theorem cg.symm {P a b : Int} (h : cg P a b) : cg P b a := Eq.symm h
theorem cg.trans {P a b c : Int} (h : cg P a b) (g : cg P b c) : cg P a c := Eq.trans h g
theorem cg.of_eq {P a b : Int} (h : a = b) : cg P a b := by rw [h]; exact cg.refl
theorem cg.sub {P a b c d : Int} (h : cg P a b) (g : cg P c d) : cg P (a - c) (b - d) := by unfold cg at *; rw [Int.sub_emod, h, g, <- Int.sub_emod]
theorem cg.mul {P a b c d : Int} (h : cg P a b) (g : cg P c d) : cg P (a * c) (b * d) := by unfold cg at *; rw [Int.mul_emod, h, g, <- Int.mul_emod]
end L3
namespace L3
open PySem
noncomputable section
noncomputable def g_f : G -> R Fl :=
  (gSt (gIfS (gT (gBin dLt (gV 1) (z1s dLen (gCons (gV 0) gNil)))) (gRet (gBin dIx (gV 0) (gV 1))) z1b)
  (gRet (gC (.int 0))))
noncomputable def c_f : List D -> R D := fnC 2 2 g_f
noncomputable def g_d : G -> R Fl :=
  (gRet (z7o (gIsi z3w (gV 0)) (z7n (gIsi z2n (gV 0)))))
noncomputable def c_d : List D -> R D := fnC 1 1 g_d
end
local macro_rules | `(tactic| walk_at "ev") => do let l <- ("L3.fin L3.finF L3.fnC L3.fnF L3.gV L3.gVr L3.gC L3.gNil L3.z9v L3.z1b L3.gSt L3.gSet L3.z3s L3.gNL L3.z1s L3.z5b L3.gCons L3.gRet L3.z6u L3.gBin L3.gL L3.gT L3.gOr L3.gNot L3.z7o L3.z7n L3.gNeg L3.dNeg L3.gIfS L3.gLst L3.gSeq L3.dSeq L3.gFor L3.gApp L3.gIsi L3.dIsi L3.gSlF L3.gON L3.gOS L3.dOS L3.z7q L3.D.ty L3.z3w L3.z2n L3.z2m L3.z1r L3.z4z L3.y1g L3.z8c L3.z6k L3.z8b L3.z4y L3.ini L3.dLen L3.dAdd L3.dMul L3.dDiv L3.dMod L3.dPow L3.dLt L3.dLe L3.dGt L3.dEq L3.dNe L3.dIx L3.noEr L3.z8m R.bind_ok R.bind_er R.bind_no L3.z3e L3.z2t L3.z3t Bool.not_true Bool.not_false if_true if_false Bool.false_eq_true beq_self_eq_true ite_true ite_false Int.reduceToNat L3.y1e L3.y1d L3.y1c L3.y1b L3.y1a L3.z2h L3.z4w L3.z6f L3.z6g L3.z4u L3.z4i L3.z8d and_true true_and and_self List.map_cons List.map_nil List.length_cons List.length_nil List.length_map List.length_range List.length_set List.length_append List.length_replicate List.cons_append List.nil_append List.append_assoc List.replicate List.set_cons_zero List.set_cons_succ List.getElem?_cons_zero List.getElem?_cons_succ L3.z6z L3.z8k Nat.reduceAdd Nat.reduceSub Nat.reduceMul Int.reduceAdd Int.reduceSub Int.reduceMul Int.reduceNeg Int.toNat_natCast L3.z4d L3.z5f L3.z5e L3.z2w Option.map_some Int.add_zero Nat.reduceEqDiff Nat.reduceLeDiff Nat.zero_add Nat.add_zero Nat.sub_zero Nat.sub_self".splitOn " ").toArray.mapM fun n => `(Lean.Parser.Tactic.simpLemma| $(Lean.mkIdent n.toName):term); `(tactic| try simp (disch := first | omega | exact z2h _ | exact z4w _ | exact z3b _ | exact z1q _ | exact z3c _ _ | exact z1h (by omega) | exact ⟨z1h (by omega), z1h (by omega)⟩ | exact z3o (by first | assumption | exact z2d (by omega)) | exact z3n (by first | assumption | exact z2d (by omega)) | assumption) only [$l,*])
noncomputable def z4n (ns : List Int) (k : Int) : Int := (ns[k.toNat]?).getD 0
theorem z9z {ns : List Int} {k : Int} (h0 : 0 <= k) (h : k < (ns.length : Int)) : atI (ns.map D.int) k = some (.int (z4n ns k)) := by
  rw [y2c h0, List.getElem?_map]
  unfold z4n
  rw [List.getElem?_eq_getElem (by omega)]; rfl
theorem z7t {ns : List Int} {k : Int} (h0 : 0 <= k) (h : ¬ k < (ns.length : Int)) : z4n ns k = 0 := by
  unfold z4n
  rw [List.getElem?_eq_none (by omega)]; rfl
theorem y0j {ns : List Int} {k : Int} (h0 : 0 <= k) : c_f [.lst (ns.map D.int), .int k] = .ok (.int (z4n ns k)) := by
  unfold c_f g_f
  by_cases h : k < (ns.length : Int)
  · have e1 := z9z h0 h
    have e2 : decide (k < (ns.length : Int)) = true := decide_eq_true h
    walk_at "ev"
    simp only [e1, e2]
    walk_at "ev"
  · have e2 : decide (k < (ns.length : Int)) = false := decide_eq_false h
    have e3 := z7t h0 h
    walk_at "ev"
    simp only [e2, e3]
    walk_at "ev"
noncomputable def z5a : D -> Bool
  | .int _ => true
  | _ => false
theorem z8p {d : D} (h : d.noX = true) : c_d [d] = .ok (.bl (z5a d)) := by
  unfold c_d g_d
  cases d <;> first | rfl | (simp [D.noX] at h)
theorem z4o (i : Int) : c_d [.int i] = .ok (.bl true) := z8p rfl
noncomputable def rowD (r : List Int) : D := .tup (r.map D.int)
theorem z7j (r : List Int) : (rowD r).noL = true := z3b r
theorem z9m (n : Nat) (r : List Int) : D.lay (n + 1) (rowD r) = true := z3c n r
theorem z7x (r : List Int) : D.pl (rowD r) = true := z8v r
theorem z2i : ∀ {a b : List Int}, a.map D.int = b.map D.int -> a = b
  | [], [], _ => rfl
  | [], _ :: _, h => by simp at h
  | _ :: _, [], h => by simp at h
  | x :: a, y :: b, h => by simp at h; rw [h.1, z2i h.2]
theorem z7g {a b : List Int} (h : rowD a = rowD b) : a = b := z2i (by unfold rowD at h; simpa using h)
theorem z6x (a b : List Int) : eqD (rowD a) (rowD b) = decide (a = b) := z9x (z7x a) (z7x b) ⟨z7g, fun h => by rw [h]⟩
theorem z7p (a b : List Int) : eqD (.tup (a.map D.int)) (.tup (b.map D.int)) = decide (a = b) := z6x a b
noncomputable def y2q (c : List D -> R D) : Prop := ∀ ns : List Int, ns.length <= 63 -> c [.lst (ns.map D.int)] = .ok (.bl true)
noncomputable section
noncomputable def g_c : G -> R Fl :=
  (gSt (gSet 1 (gNL (gC (.int 2))))
  (gSt (whGo (gT (gBin dLe (gBin dMul (gV 1) (gV 1)) (gV 0))) (gSt (gIfS (gT (gBin dEq (gBin dMod (gV 0) (gV 1)) (gC (.int 0)))) (gRet (gV 1)) z1b)
  (gSet 1 (gNL (gBin dAdd (gV 1) (gC (.int 1)))))) 10000)
  (gRet (gV 0))))
noncomputable def c_c : List D -> R D := fnC 1 2 g_c
end
local macro_rules | `(tactic| walk_at "evs") => do let l <- ("L3.fin L3.finF L3.fnC L3.fnF L3.gV L3.gVr L3.gC L3.gNil L3.z9v L3.z1b L3.gSt L3.gSet L3.z3s L3.gNL L3.z1s L3.z5b L3.gCons L3.gRet L3.z6u L3.gBin L3.gL L3.gT L3.gOr L3.gNot L3.z7o L3.z7n L3.gNeg L3.dNeg L3.gIfS L3.gLst L3.gSeq L3.dSeq L3.gFor L3.gApp L3.gIsi L3.dIsi L3.gSlF L3.gON L3.gOS L3.dOS L3.z7q L3.D.ty L3.z3w L3.z2n L3.z2m L3.z1r L3.z4z L3.y1g L3.z8c L3.z6k L3.z8b L3.z4y L3.ini L3.dLen L3.dAdd L3.dMul L3.dDiv L3.dMod L3.dPow L3.dLt L3.dLe L3.dGt L3.dEq L3.dNe L3.dIx L3.noEr L3.z8m R.bind_ok R.bind_er R.bind_no L3.z3e L3.z2t L3.z3t Bool.not_true Bool.not_false if_true if_false Bool.false_eq_true beq_self_eq_true ite_true ite_false Int.reduceToNat L3.y1e L3.y1d L3.y1c L3.y1b L3.y1a L3.z2h L3.z4w L3.z6f L3.z6g L3.z4u L3.z4i L3.z8d and_true true_and and_self List.map_cons List.map_nil List.length_cons List.length_nil List.length_map List.length_range List.length_set List.length_append List.length_replicate List.cons_append List.nil_append List.append_assoc List.replicate List.set_cons_zero List.set_cons_succ List.getElem?_cons_zero List.getElem?_cons_succ L3.z6z L3.z8k Nat.reduceAdd Nat.reduceSub Nat.reduceMul Int.reduceAdd Int.reduceSub Int.reduceMul Int.reduceNeg Int.toNat_natCast L3.z4d L3.z5f L3.z5e L3.z2w Option.map_some Int.add_zero Nat.reduceEqDiff Nat.reduceLeDiff Nat.zero_add Nat.add_zero Nat.sub_zero Nat.sub_self L3.y0j L3.z4o L3.z5a L3.z9m L3.z6x L3.z7p L3.z7j".splitOn " ").toArray.mapM fun n => `(Lean.Parser.Tactic.simpLemma| $(Lean.mkIdent n.toName):term); `(tactic| try simp (disch := first | omega | exact z2h _ | exact z4w _ | exact z3b _ | exact z1q _ | exact z3c _ _ | exact z1h (by omega) | exact ⟨z1h (by omega), z1h (by omega)⟩ | exact z3o (by first | assumption | exact z2d (by omega)) | exact z3n (by first | assumption | exact z2d (by omega)) | assumption) only [$l,*])
noncomputable def LDiv (n q : Int) : Prop := (n = 1 /\ q = 1) ∨ (2 <= q /\ q <= n /\ n % q = 0 /\ ∀ e : Int, 2 <= e -> e < q -> n % e ≠ 0)
theorem z7s {n b : Int} (hn : 1 <= n) (b1 : 2 <= b) (b2 : b < n) (hb : n % b = 0) : n = b * (n / b) /\ 2 <= n / b /\ n / b < n /\ n % (n / b) = 0 := by
  have e1 : n = b * (n / b) := by have := Int.emod_add_mul_ediv n b; omega
  generalize hq : n / b = q at *
  have q0 : 0 < q := by
    rcases Int.lt_trichotomy 0 q with z | z | z
    · exact z
    · rw [<- z] at e1; simp at e1; omega
    · have : b * q < 0 := Int.mul_neg_of_pos_of_neg (by omega) z
      omega
  have q1 : q ≠ 1 := fun z => by rw [z] at e1; omega
  have q2 : 2 * q <= b * q := Int.mul_le_mul_of_nonneg_right b1 (by omega)
  exact ⟨e1, by omega, by omega, by rw [e1]; exact Int.mul_emod_left b q⟩
theorem z9g {n d : Int} (h1 : 1 <= n) (d1 : 2 <= d) (hq : ¬ d * d <= n) (hd : ∀ e : Int, 2 <= e -> e < d -> n % e ≠ 0) : LDiv n n := by
  by_cases hn : n = 1
  · exact .inl ⟨hn, hn⟩
  refine .inr ⟨by omega, by omega, Int.emod_self, fun e e1 e2 z => ?_⟩
  obtain ⟨c1, c2, c3, c4⟩ := z7s h1 e1 e2 z
  have e3 : d <= e := by
    rcases Int.lt_or_le e d with w | w
    · exact absurd z (hd e e1 w)
    · exact w
  have e4 : d <= n / e := by
    rcases Int.lt_or_le (n / e) d with w | w
    · exact absurd c4 (hd _ c2 w)
    · exact w
  have : d * d <= e * (n / e) := Int.mul_le_mul e3 e4 (by omega) (by omega)
  omega
theorem z3x {n : Int} (h1 : 1 <= n) (h2 : n <= 100000000) : ∀ (k m : Nat) (Γ : G), m < k ->
    (∃ d : Int, Γ = [.ro (.int n), .ro (.int d)] /\ 2 <= d /\ d <= 10001 /\ (∀ e : Int, 2 <= e -> e < d -> n % e ≠ 0) /\ (10001 - d).toNat = m) ->
    (∃ q, LDiv n q /\ whGo (gT (gBin dLe (gBin dMul (gV 1) (gV 1)) (gV 0))) (gSt (gIfS (gT (gBin dEq (gBin dMod (gV 0) (gV 1)) (gC (.int 0)))) (gRet (gV 1)) z1b) (gSet 1 (gNL (gBin dAdd (gV 1) (gC (.int 1)))))) k Γ = .ok (.rt (.int q))) ∨
    (LDiv n n /\ ∃ x, whGo (gT (gBin dLe (gBin dMul (gV 1) (gV 1)) (gV 0))) (gSt (gIfS (gT (gBin dEq (gBin dMod (gV 0) (gV 1)) (gC (.int 0)))) (gRet (gV 1)) z1b) (gSet 1 (gNL (gBin dAdd (gV 1) (gC (.int 1)))))) k Γ = .ok (.nx [.ro (.int n), x])) := by
  refine z1m _ (fun r => (∃ q, LDiv n q /\ r = .ok (.rt (.int q))) ∨ (LDiv n n /\ ∃ x, r = .ok (.nx [.ro (.int n), x]))) ?_
  rintro m Γ ⟨d, rfl, d1, d2, hd, hm⟩
  by_cases hq : d * d <= n
  · have e1 : decide (d * d <= n) = true := decide_eq_true hq
    have d3 : d < 10001 := by
      rcases Int.lt_or_le d 10001 with z | z
      · exact z
      · have : 10001 * 10001 <= d * d := Int.mul_le_mul z z (by omega) (by omega)
        omega
    refine .inr ⟨by walk_at "evs"; simp only [e1], ?_⟩
    by_cases hz : n % d = 0
    · have e2 : (n % d == 0) = true := by simpa using hz
      have d5 : 2 * d <= d * d := Int.mul_le_mul_of_nonneg_right d1 (by omega)
      refine .inr (.inr (.inl ⟨.int d, ?_, .inl ⟨d, .inr ⟨d1, by omega, hz, hd⟩, rfl⟩⟩))
      refine y2a (y1j (by walk_at "evs"; simp only [e2]) ?_)
      exact z6q (by walk_at "evs")
    · have e2 : (n % d == 0) = false := by simpa using hz
      refine .inl ⟨[.ro (.int n), .ro (.int (d + 1))], (10001 - (d + 1)).toNat, by omega, .inl ?_, d + 1, rfl, by omega, by omega, fun e z1 z2 => ?_, rfl⟩
      · refine z1t (by walk_at "evs"; simp only [e2]) ?_
        refine z3r ?_
        walk_at "evs"
      · by_cases ee : e = d
        · rw [ee]; exact hz
        · exact hd e z1 (by omega)
  · have e1 : decide (d * d <= n) = false := decide_eq_false hq
    exact .inl ⟨by walk_at "evs"; simp only [e1], .inr ⟨z9g h1 d1 hq hd, _, rfl⟩⟩
theorem z8q {n : Int} (h1 : 1 <= n) (h2 : n <= 100000000) : ∃ q, LDiv n q /\ c_c [.int n] = .ok (.int q) := by
  rcases z3x h1 h2 10000 (10001 - 2 : Int).toNat [.ro (.int n), .ro (.int 2)] (by decide) ⟨2, rfl, by omega, by omega, fun e z1 z2 => by omega, rfl⟩ with ⟨q, hl, e⟩ | ⟨hl, x, e⟩
  · refine ⟨q, hl, z2v rfl ?_⟩
    unfold g_c
    refine z2o (d := .int 2) (by walk_at "evs") ?_
    exact y2a e
  · refine ⟨n, hl, z2v rfl ?_⟩
    unfold g_c
    refine z2o (d := .int 2) (by walk_at "evs") ?_
    exact z2p e (z6q (by walk_at "evs"))
noncomputable section
noncomputable def z0q : G -> R Fl :=
  (gSt (gSet 1 (gNL (gC (.int 2))))
  (gSt (whGo (gT (gBin dLe (gBin dMul (gV 1) (gV 1)) (gV 0))) (gSt (gIfS (gT (gBin dEq (gBin dMod (gV 0) (gV 1)) (gC (.int 0)))) (gRet (gC (.bl false))) z1b)
  (gSet 1 (gNL (gBin dAdd (gV 1) (gC (.int 1)))))) 10001)
  (gRet (gBin dGt (gV 0) (gC (.int 1))))))
noncomputable def z0j : List D -> R D := fnC 1 2 z0q
noncomputable def g_b : G -> R Fl :=
  (gSt (whGo (gT (gBin dEq (gBin dMod (gV 0) (gV 1)) (gC (.int 0)))) (gSet 0 (gNL (gBin dDiv (gV 0) (gV 1)))) 100)
  (gRet (gV 0)))
noncomputable def c_b : List D -> R D := fnC 2 2 g_b
noncomputable def g_e : G -> R Fl :=
  (gSt (z3s 1 (gLst gNil))
  (gSt (whGo (gT (gBin dGt (gV 0) (gC (.int 1)))) (gSt (gApp 1 (gNL (z1s c_c (gCons (gV 0) gNil))))
  (gSet 0 (gNL (z1s c_b (gCons (gV 0) (gCons (gBin dIx (gV 1) (gNeg (gC (.int 1)))) gNil)))))) 100)
  (z6u 1)))
noncomputable def c_e : List D -> R (List D) := fnF 1 2 g_e
end
noncomputable section
noncomputable def g_g : G -> R Fl :=
  (gSt (z3s 1 (z5b c_e (gCons (gV 0) gNil)))
  (gSt (gIfS (gNot (gT (gIsi z2m (gV 1)))) (gRet (gC (.bl false))) z1b)
  (gSt (gSet 2 (gNL (gC (.int 1))))
  (gSt (gFrz 1 (gFor 3 (gSeq (gVr 1))
  (gSt (gIfS (gOr (gNot (gT (z1s c_d (gCons (gV 3) gNil)))) (gOr (gT (gBin dLe (gV 3) (gV 2))) (gOr (gT (gBin dNe (gBin dMod (gV 0) (gV 3)) (gC (.int 0)))) (gNot (gT (z1s z0j (gCons (gV 3) gNil))))))) (gRet (gC (.bl false))) z1b)
  (gSt (whGo (gT (gBin dEq (gBin dMod (gV 0) (gV 3)) (gC (.int 0)))) (gSet 0 (gNL (gBin dDiv (gV 0) (gV 3)))) 100)
  (gSet 2 (gNL (gV 3)))))))
  (gRet (gBin dEq (gV 0) (gC (.int 1))))))))
noncomputable def c_g : List D -> R D := fnC 1 4 g_g
end
inductive Out (q : Int) : Int -> Int -> Prop
  | stop {n : Int} : n % q ≠ 0 -> Out q n n
  | step {n y : Int} : n % q = 0 -> Out q (n / q) y -> Out q n y
theorem z2e {n q : Int} (h1 : 1 <= n) (h2 : 2 <= q) (h : n % q = 0) : n = q * (n / q) /\ 1 <= n / q /\ 2 * (n / q) <= n := by
  have e1 : n = q * (n / q) := by have := Int.emod_add_mul_ediv n q; omega
  generalize n / q = x at *
  have x0 : 0 < x := by
    rcases Int.lt_trichotomy 0 x with z | z | z
    · exact z
    · rw [<- z] at e1; simp at e1; omega
    · have : q * x < 0 := Int.mul_neg_of_pos_of_neg (by omega) z
      omega
  have : 2 * x <= q * x := Int.mul_le_mul_of_nonneg_right h2 (by omega)
  exact ⟨e1, by omega, by omega⟩
theorem z8a {q : Int} (h2 : 2 <= q) : ∀ (m : Nat) (n : Int), 1 <= n -> n < (m : Int) -> ∃ y, Out q n y
  | 0, n, h1, h => by omega
  | m + 1, n, h1, h => by
    by_cases z : n % q = 0
    · obtain ⟨_, x1, x2⟩ := z2e h1 h2 z
      obtain ⟨y, hy⟩ := z8a h2 m (n / q) x1 (by omega)
      exact ⟨y, .step z hy⟩
    · exact ⟨n, .stop z⟩
theorem Out.facts {q n y : Int} (h : Out q n y) : 1 <= n -> 2 <= q -> 1 <= y /\ y <= n /\ y % q ≠ 0 /\ ∀ e : Int, y % e = 0 -> n % e = 0 := by
  induction h with
  | stop z => exact fun h1 h2 => ⟨h1, Int.le_refl _, z, fun e he => he⟩
  | step z _ ih =>
    intro h1 h2
    obtain ⟨e1, x1, x2⟩ := z2e h1 h2 z
    obtain ⟨a, b, c, d⟩ := ih x1 h2
    refine ⟨a, by omega, c, fun e he => ?_⟩
    have := d e he
    rw [e1]
    exact Int.emod_eq_zero_of_dvd (Int.dvd_mul_of_dvd_right (Int.dvd_of_emod_eq_zero this))
theorem Out.less {q n y : Int} (h : Out q n y) (h1 : 1 <= n) (h2 : 2 <= q) (hz : n % q = 0) : 2 * y <= n := by
  cases h with
  | stop z => exact absurd hz z
  | step z h =>
    obtain ⟨_, x1, x2⟩ := z2e h1 h2 z
    have := (h.facts x1 h2).2.1
    omega
theorem z3j {n x : Int} {m : Nat} (h : n < 2 ^ m) (h1 : 1 <= x) (hx : 2 * x <= n) : ∃ k, m = k + 1 /\ x < 2 ^ k := by
  cases m with
  | zero => rw [Int.pow_zero] at h; omega
  | succ k => rw [Int.pow_succ] at h; exact ⟨k, rfl, by omega⟩
theorem z4r {q y : Int} (h2 : 2 <= q) (hq : q <= 100000000) {gc : G -> R Bool} {gb : G -> R Fl} {Γx : Int -> G} (hc : ∀ x, gc (Γx x) = .ok (x % q == 0)) (hb : ∀ x, gb (Γx x) = .ok (.nx (Γx (x / q)))) :
    ∀ (k m : Nat) (n : Int), m < k -> 1 <= n -> n < 2 ^ m -> Out q n y -> whGo gc gb k (Γx n) = .ok (.nx (Γx y)) := by
  intro k m n hk h1 hm ho
  refine z1m (fun m Γ => ∃ x, Γ = Γx x /\ 1 <= x /\ x < 2 ^ m /\ Out q x y) (fun r => r = .ok (.nx (Γx y))) ?_ k m (Γx n) hk ⟨n, rfl, h1, hm, ho⟩
  rintro m Γ ⟨x, rfl, x1, xm, xo⟩
  cases xo with
  | stop z => exact .inl ⟨by rw [hc]; simp [z], rfl⟩
  | step z h =>
    obtain ⟨_, y1, y2⟩ := z2e x1 h2 z
    obtain ⟨m', rfl, hm'⟩ := z3j xm y1 y2
    exact .inr ⟨by rw [hc]; simp [z], .inl ⟨_, m', by omega, .inl (hb x), _, rfl, y1, hm', h⟩⟩
theorem z5v {n q y : Int} (h1 : 1 <= n) (hn : n < 2 ^ 60) (h2 : 2 <= q) (hq : q <= 100000000) (ho : Out q n y) : c_b [.int n, .int q] = .ok (.int y) := by
  refine z2v rfl ?_
  unfold g_b
  refine z2p (Γ' := [.ro (.int y), .ro (.int q)]) ?_ (z6q (by walk_at "evs"))
  exact z4r (Γx := fun x => [.ro (.int x), .ro (.int q)]) h2 hq (fun x => by walk_at "evs") (fun x => z3r (by walk_at "evs")) 100 60 n (by omega) h1 hn ho
inductive Fac : Int -> Int -> List Int -> Prop
  | one {l : Int} : Fac 1 l []
  | more {n l q y : Int} {qs : List Int} : 2 <= n -> l < q -> LDiv n q -> Out q n y -> Fac y q qs -> Fac n l (q :: qs)
theorem z8j : ∀ (m : Nat) (n l : Int), 1 <= n -> n < (m : Int) -> (∀ e : Int, 2 <= e -> n % e = 0 -> l < e) -> ∃ qs, Fac n l qs
  | 0, n, l, h1, h, _ => by omega
  | m + 1, n, l, h1, h, hl => by
    by_cases z : n = 1
    · subst z; exact ⟨[], .one⟩
    · obtain ⟨q, hq⟩ : ∃ q, LDiv n q := by
        have H : ∀ (k : Nat), (k : Int) + 2 <= n -> (∃ q, LDiv n q) ∨ ∀ e : Int, 2 <= e -> e < (k : Int) + 2 -> n % e ≠ 0 := by
          intro k
          induction k with
          | zero => intro _; exact .inr fun e a b => by omega
          | succ k ih =>
            intro hk
            rcases ih (by omega) with w | w
            · exact .inl w
            · by_cases hz : n % ((k : Int) + 2) = 0
              · exact .inl ⟨(k : Int) + 2, .inr ⟨by omega, by omega, hz, w⟩⟩
              · refine .inr fun e a b => ?_
                by_cases he : e = (k : Int) + 2
                · rw [he]; exact hz
                · exact w e a (by omega)
        obtain ⟨k, hk⟩ := Int.eq_ofNat_of_zero_le (show 0 <= n - 2 by omega)
        rcases H k (by omega) with w | w
        · exact w
        · exact ⟨n, .inr ⟨by omega, by omega, Int.emod_self, fun e a b => w e a (by omega)⟩⟩
      rcases hq with ⟨w, _⟩ | ⟨q1, q2, q3, q4⟩
      · exact absurd w z
      obtain ⟨y, hy⟩ := z8a q1 (m + 1) n h1 h
      obtain ⟨y1, y2, y3, y4⟩ := hy.facts h1 q1
      have hlt := hy.less h1 q1 q3
      obtain ⟨qs, hqs⟩ := z8j m y q y1 (by omega) (fun e e1 e2 => by
        have e3 := y4 e e2
        rcases Int.lt_trichotomy e q with w | w | w
        · exact absurd e3 (q4 e e1 w)
        · rw [w] at e2; exact absurd e2 y3
        · exact w)
      exact ⟨q :: qs, .more (by omega) (hl q q1 q3) (.inr ⟨q1, q2, q3, q4⟩) hy hqs⟩
theorem Fac.len {n l : Int} {qs : List Int} (h : Fac n l qs) : ∀ m : Nat, n < 2 ^ m -> qs.length <= m := by
  induction h with
  | one => intro m _; exact Nat.zero_le m
  | more h2 _ hq ho _ ih =>
    intro m hm
    rcases hq with ⟨w, _⟩ | ⟨q1, q2, q3, q4⟩
    · omega
    obtain ⟨y1, _⟩ := ho.facts (by omega) q1
    obtain ⟨k, rfl, hk⟩ := z3j hm y1 (ho.less (by omega) q1 q3)
    have := ih k hk
    rw [List.length_cons]; omega
theorem LDiv.two {n q : Int} (h : LDiv n q) (hn : 2 <= n) : 2 <= q /\ q <= n /\ n % q = 0 /\ ∀ e : Int, 2 <= e -> e < q -> n % e ≠ 0 := by
  rcases h with ⟨w, _⟩ | h
  · omega
  · exact h
theorem LDiv.uniq {n a b : Int} (ha : LDiv n a) (hb : LDiv n b) : a = b := by
  rcases ha with ⟨w, v⟩ | ⟨a1, a2, a3, a4⟩
  · rcases hb with ⟨_, v'⟩ | ⟨b1, b2, b3, b4⟩
    · omega
    · omega
  · rcases hb with ⟨w, _⟩ | ⟨b1, b2, b3, b4⟩
    · omega
    · rcases Int.lt_trichotomy a b with z | z | z
      · exact absurd a3 (b4 a a1 z)
      · exact z
      · exact absurd b3 (a4 b b1 z)
theorem z7f {n q : Int} (h1 : 1 <= n) (h2 : n <= 100000000) (h : LDiv n q) : c_c [.int n] = .ok (.int q) := by
  obtain ⟨q', h', e⟩ := z8q h1 h2
  rw [e, h'.uniq h]
theorem z9n (l : List D) (d : D) : atI (l ++ [d]) (-1) = some d := by
  rw [y0d (by omega) (by rw [List.length_append]; simp; omega)]
  rw [show ((-1 : Int) + ((l ++ [d]).length : Nat)).toNat = l.length by rw [List.length_append]; simp; omega]
  simp
theorem s_e {n : Int} {qs : List Int} (h1 : 1 <= n) (h2 : n <= 100000000) (hf : Fac n 1 qs) : c_e [.int n] = .ok (qs.map D.int) := by
  refine y1x rfl ?_
  unfold g_e
  refine z7b (ds := []) (by walk_at "evs") ?_
  refine z2p (Γ' := [.ro (.int 1), .own (qs.map D.int)]) ?_ rfl
  have hl := hf.len 27 (by omega)
  refine z1m (fun m Γ => ∃ x l acc rest, Γ = [.ro (.int x), .own (acc.map D.int)] /\ 1 <= x /\ x <= 100000000 /\ Fac x l rest /\ acc ++ rest = qs /\ rest.length = m) (fun r => r = .ok (.nx [.ro (.int 1), .own (qs.map D.int)])) ?_ 100 qs.length _ (by omega) ⟨n, 1, [], qs, rfl, h1, h2, hf, rfl, rfl⟩
  rintro m Γ ⟨x, l, acc, rest, rfl, x1, x2, xf, rfl, rfl⟩
  have hal : acc.length <= 27 := by rw [List.length_append] at hl; omega
  cases xf with
  | one =>
    refine .inl ⟨by walk_at "evs"; rfl, by rw [List.append_nil]⟩
  | more z lt hq ho hr =>
    rename_i q y qs'
    obtain ⟨q1, q2, q3, q4⟩ := hq.two z
    obtain ⟨y1, y2, y3, y4⟩ := ho.facts x1 q1
    have ed := z7f x1 x2 hq
    have ew := z5v x1 (by omega) q1 (by omega) ho
    have e1 : decide (x > 1) = true := decide_eq_true (by omega)
    refine .inr ⟨by walk_at "evs"; rw [e1], .inl ⟨[.ro (.int y), .own ((acc ++ [q]).map D.int)], qs'.length, by rw [List.length_cons]; omega, .inl ?_, y, q, acc ++ [q], qs', rfl, y1, by omega, hr, by rw [List.append_assoc]; rfl, rfl⟩⟩
    refine z2p (y2s (d := .int q) rfl (by walk_at "evs"; simp only [ed]; walk_at "evs") (by rw [List.length_map]; omega)) ?_
    show gSet 0 _ [.ro (.int x), .own (acc.map D.int ++ [.int q])] = _
    rw [List.map_append]
    refine z3r (d := .int y) ?_
    have el := z9n (acc.map D.int) (.int q)
    walk_at "evs"
    simp only [el]
    walk_at "evs"
    simp only [ew]
    walk_at "evs"
theorem z4h {n : Int} (h1 : 2 <= n) (h2 : n <= 100000000) (hp : ∀ e : Int, 2 <= e -> e < n -> n % e ≠ 0) : ∀ (k m : Nat) (Γ : G), m < k ->
    (∃ d : Int, Γ = [.ro (.int n), .ro (.int d)] /\ 2 <= d /\ d <= 10001 /\ (10001 - d).toNat = m) ->
    ∃ x, whGo (gT (gBin dLe (gBin dMul (gV 1) (gV 1)) (gV 0))) (gSt (gIfS (gT (gBin dEq (gBin dMod (gV 0) (gV 1)) (gC (.int 0)))) (gRet (gC (.bl false))) z1b) (gSet 1 (gNL (gBin dAdd (gV 1) (gC (.int 1)))))) k Γ = .ok (.nx [.ro (.int n), x]) := by
  refine z1m _ (fun r => ∃ x, r = .ok (.nx [.ro (.int n), x])) ?_
  rintro m Γ ⟨d, rfl, d1, d2, hm⟩
  by_cases hq : d * d <= n
  · have e1 : decide (d * d <= n) = true := decide_eq_true hq
    have d3 : d < 10001 := by
      rcases Int.lt_or_le d 10001 with z | z
      · exact z
      · have : 10001 * 10001 <= d * d := Int.mul_le_mul z z (by omega) (by omega)
        omega
    have d5 : 2 * d <= d * d := Int.mul_le_mul_of_nonneg_right d1 (by omega)
    have e2 : (n % d == 0) = false := by simpa using hp d d1 (by omega)
    refine .inr ⟨by walk_at "evs"; simp only [e1], .inl ⟨[.ro (.int n), .ro (.int (d + 1))], (10001 - (d + 1)).toNat, by omega, .inl ?_, d + 1, rfl, by omega, by omega, rfl⟩⟩
    refine z1t (by walk_at "evs"; simp only [e2]) ?_
    refine z3r ?_
    walk_at "evs"
  · have e1 : decide (d * d <= n) = false := decide_eq_false hq
    exact .inl ⟨by walk_at "evs"; simp only [e1], _, rfl⟩
theorem z7e {n : Int} (h1 : 2 <= n) (h2 : n <= 100000000) (hp : ∀ e : Int, 2 <= e -> e < n -> n % e ≠ 0) : z0j [.int n] = .ok (.bl true) := by
  refine z2v rfl ?_
  unfold z0q
  refine z2o (d := .int 2) (by walk_at "evs") ?_
  obtain ⟨x, e⟩ := z4h h1 h2 hp 10001 (10001 - 2 : Int).toNat [.ro (.int n), .ro (.int 2)] (by decide) ⟨2, rfl, by omega, by omega, rfl⟩
  refine z2p e (z6q ?_)
  have e1 : decide (n > 1) = true := decide_eq_true (by omega)
  walk_at "evs"
  rw [e1]
theorem LDiv.prime {n q : Int} (h : LDiv n q) (hn : 2 <= n) : ∀ e : Int, 2 <= e -> e < q -> q % e ≠ 0 := fun e e1 e2 z => by
  obtain ⟨q1, q2, q3, q4⟩ := h.two hn
  refine q4 e e1 e2 (Int.emod_eq_zero_of_dvd (Int.dvd_trans (Int.dvd_of_emod_eq_zero z) (Int.dvd_of_emod_eq_zero q3)))
noncomputable section
noncomputable def z9u : G -> R Fl :=
  (gSt (gSet 1 (gNL (z1s c_f (gCons (gV 0) (gCons (gC (.int 0)) gNil)))))
  (gSt (gSet 2 (gNL (gBin dAdd (gC (.int 1)) (gBin dMod (gBin dDiv (gV 1) (gC (.int 2))) (gBin dPow (gC (.int 10)) (gC (.int 8)))))))
  (gSt (gIfS (gT (gBin dEq (gBin dMod (gV 1) (gC (.int 2))) (gC (.int 1)))) (gSt (gSet 2 (gNL (gC (.int 1))))
  (gFor 3 (gSeq (gL (gLst (z9v [2, 198, 19602, 1940598]))))
  (gSet 2 (gNL (gBin dMul (gV 2) (gBin dAdd (gC (.int 1)) (gBin dMod (gBin dDiv (gV 1) (gV 3)) (gC (.int 99))))))))) z1b)
  (gSt (gIfS (gNot (gT (z1s c_g (gCons (gV 2) gNil)))) (gRet (gC (.bl false))) z1b)
  (gSt (gFor 1 (gSeq (gL (gSlF (gV 0) (gOS (gC (.int 1))) gON)))
  (gIfS (gNot (gT (z1s c_g (gCons (gBin dAdd (gC (.int 1)) (gBin dMod (gV 1) (gC (.int 9999)))) gNil)))) (gRet (gC (.bl false))) z1b))
  (gRet (gC (.bl true))))))))
noncomputable def c_law : List D -> R D := fnC 1 4 z9u
end
theorem y0a {i k : Nat} {gb u : G -> R Fl} {Γ : G} {ds : List D} {r : R Fl} (ho : Γ[i]? = some (.own ds)) (I : Nat -> G -> Prop) (h0 : I 0 (Γ.set i (.ro (.lst ds)))) (hs : gSeq (gVr i) (Γ.set i (.ro (.lst ds))) = .ok ds) (hq : ∀ (j : Nat) (d : D) (Γ : G), ds[j]? = some d -> I j Γ -> Ends (gb (Γ.set k (.ro d))) (I (j + 1))) (h : ∀ Γ', I ds.length Γ' -> u Γ' = r) : gSt (gFrz i (gFor k (gSeq (gVr i)) gb)) u Γ = r := by
  have e : frzAt i Γ = Γ.set i (.ro (.lst ds)) := by unfold frzAt; rw [ho]
  have := y0c (gs := gSeq (gVr i)) (gb := gb) (i := k) (u := u) (r := r) I hs h0 hq h
  unfold gSt gFrz at *
  rw [e]
  exact this
theorem z7w {n : Int} (h1 : 1 <= n) (h2 : n <= 100000000) : c_g [.int n] = .ok (.bl true) := by
  refine z2v rfl ?_
  unfold g_g
  obtain ⟨qs, hf⟩ := z8j (n.toNat + 1) n 1 h1 (by omega) (fun e a b => by omega)
  have ep := s_e h1 h2 hf
  refine z7b (ds := qs.map D.int) (by walk_at "evs"; simp only [ep]; walk_at "evs") ?_
  refine z1t (by walk_at "evs") ?_
  refine z2o (d := .int 1) (by walk_at "evs") ?_
  refine y0a (ds := qs.map D.int) rfl (fun i Γ => ∃ x l x3, Γ = [.ro (.int x), .ro (.lst (qs.map D.int)), .ro (.int l), x3] /\ 1 <= l /\ 1 <= x /\ x <= 100000000 /\ Fac x l (qs.drop i)) ⟨n, 1, _, rfl, by omega, h1, h2, hf⟩ (by walk_at "evs") ?_ ?_
  · rintro i d Γ hd ⟨x, l, x3, rfl, l1, x1, x2, xf⟩
    rw [List.getElem?_map] at hd
    cases hi : qs[i]? with
    | none => rw [hi] at hd; cases hd
    | some q =>
      rw [hi] at hd
      injection hd with hd
      subst hd
      have hdr : qs.drop i = q :: qs.drop (i + 1) := by
        obtain ⟨hlt, e⟩ := List.getElem?_eq_some_iff.mp hi
        rw [List.drop_eq_getElem_cons hlt, e]
      rw [hdr] at xf
      cases xf with
      | more z lt hq ho hr =>
        rename_i y
        obtain ⟨q1, q2, q3, q4⟩ := hq.two z
        obtain ⟨y1, y2, y3, y4⟩ := ho.facts x1 q1
        have epr := z7e q1 (by omega) (hq.prime z)
        have ew := z4o q
        have e1 : decide (q <= l) = false := decide_eq_false (by omega)
        have e2 : (x % q == 0) = true := by simpa using q3
        refine .nx (z1t ?_ (z2p (Γ' := [.ro (.int y), .ro (.lst (qs.map D.int)), .ro (.int l), .ro (.int q)]) (z4r (Γx := fun x => [.ro (.int x), .ro (.lst (qs.map D.int)), .ro (.int l), .ro (.int q)]) q1 (by omega) (fun x => by walk_at "evs") (fun x => z3r (by walk_at "evs")) 100 60 x (by omega) x1 (by omega) ho) (z3r (d := .int q) (by walk_at "evs")))) ⟨y, q, _, rfl, by omega, y1, by omega, hr⟩
        walk_at "evs"
        simp only [e1, e2, q3, epr]
        walk_at "evs"
  · rintro Γ ⟨x, l, x3, rfl, l1, x1, x2, xf⟩
    rw [List.length_map, List.drop_length] at xf
    cases xf
    exact z6q (by walk_at "evs")
theorem law_k61 : y2q c_law := by
  intro ns hn
  refine z2v rfl ?_
  unfold z9u
  have fin : ∀ (c g : Int) (x3 : En), 1 <= g -> g <= 100000000 -> (gSt (gIfS (gNot (gT (z1s c_g (gCons (gV 2) gNil)))) (gRet (gC (.bl false))) z1b)
  (gSt (gFor 1 (gSeq (gL (gSlF (gV 0) (gOS (gC (.int 1))) gON)))
  (gIfS (gNot (gT (z1s c_g (gCons (gBin dAdd (gC (.int 1)) (gBin dMod (gV 1) (gC (.int 9999)))) gNil)))) (gRet (gC (.bl false))) z1b))
  (gRet (gC (.bl true))))) [.ro (.lst (ns.map D.int)), .ro (.int c), .ro (.int g), x3] = .ok (.rt (.bl true)) := by
    intro c g x3 g1 g2
    have eg := z7w g1 g2
    refine z1t (by walk_at "evs"; simp only [eg]; walk_at "evs") ?_
    refine y0b (ds := (ns.drop 1).map D.int) (fun Γ => ∃ x1, Γ = [.ro (.lst (ns.map D.int)), x1, .ro (.int g), x3]) (by
      have hcut : cutL (ns.map D.int) (some 1) none = (ns.drop 1).map D.int := by
        rw [z7r, show (some (1 : Int)) = some ((1 : Nat) : Int) from rfl, z7a]
      walk_at "evs"
      rw [hcut]
      walk_at "evs") ⟨_, rfl⟩ ?_ ?_
    · rintro d hd Γ ⟨x1, rfl⟩
      obtain ⟨c', _, rfl⟩ := List.mem_map.mp hd
      have eg' := z7w (n := 1 + c' % 9999) (by omega) (by omega)
      refine .nx (z8e (by walk_at "evs"; simp only [eg']; walk_at "evs")) ⟨_, rfl⟩
    · rintro Γ ⟨x1, rfl⟩
      rfl
  refine z2o (d := .int (z4n ns 0)) (by walk_at "evs") ?_
  generalize z4n ns 0 = c
  refine z2o (d := .int (1 + c / 2 % 100000000)) (by walk_at "evs"; rfl) ?_
  by_cases h : c % 2 = 1
  · have e1 : (c % 2 == 1) = true := by simpa using h
    have B : ∀ a : Int, 1 <= 1 + a % 99 /\ 1 + a % 99 <= 99 := fun a => by omega
    have st : ∀ (g b : Int), 1 <= g -> g <= 970299 -> 0 < b -> b < 1073741824 -> (gSet 2 (gNL (gBin dMul (gV 2) (gBin dAdd (gC (.int 1)) (gBin dMod (gBin dDiv (gV 1) (gV 3)) (gC (.int 99))))))) [.ro (.lst (ns.map D.int)), .ro (.int c), .ro (.int g), .ro (.int b)] = .ok (.nx [.ro (.lst (ns.map D.int)), .ro (.int c), .ro (.int (g * (1 + c / b % 99))), .ro (.int b)]) := by
      intro g b g1 g2 b1 b2
      exact z3r (by walk_at "evs")
    have bd : ∀ (g b M : Int), 1 <= g -> g <= M -> 1 <= g * (1 + c / b % 99) /\ g * (1 + c / b % 99) <= M * 99 := by
      intro g b M g1 g2
      obtain ⟨b1, b2⟩ := B (c / b)
      generalize 1 + c / b % 99 = z at *
      have h1 : 1 * 1 <= g * z := Int.mul_le_mul g1 b1 (by omega) (by omega)
      have h2 : g * z <= M * 99 := Int.mul_le_mul g2 b2 (by omega) (by omega)
      omega
    obtain ⟨a1, a2⟩ := bd 1 2 1 (by omega) (by omega)
    obtain ⟨a3, a4⟩ := bd _ 198 _ a1 a2
    obtain ⟨a5, a6⟩ := bd _ 19602 _ a3 a4
    obtain ⟨a7, a8⟩ := bd _ 1940598 _ a5 a6
    refine y2b (by walk_at "evs"; simp only [e1]) (z2o (d := .int 1) (by walk_at "evs") (z9o (ds := [.int 2, .int 198, .int 19602, .int 1940598]) (by
      have nl : D.noLs [D.int 2, .int 198, .int 19602, .int 1940598] = true := z1q [2, 198, 19602, 1940598]
      walk_at "evs") ?_)) (fin c _ (.ro (.int 1940598)) a7 (by omega))
    have sf : ∀ (g b : Int) (ds : List D) (x : En), 1 <= g -> g <= 970299 -> 0 < b -> b < 1073741824 -> z0n (gSet 2 (gNL (gBin dMul (gV 2) (gBin dAdd (gC (.int 1)) (gBin dMod (gBin dDiv (gV 1) (gV 3)) (gC (.int 99))))))) 3 (.int b :: ds) [.ro (.lst (ns.map D.int)), .ro (.int c), .ro (.int g), x] = z0n (gSet 2 (gNL (gBin dMul (gV 2) (gBin dAdd (gC (.int 1)) (gBin dMod (gBin dDiv (gV 1) (gV 3)) (gC (.int 99))))))) 3 ds [.ro (.lst (ns.map D.int)), .ro (.int c), .ro (.int (g * (1 + c / b % 99))), .ro (.int b)] := by
      intro g b ds x g1 g2 b1 b2
      rw [z2u, show ([En.ro (D.lst (ns.map D.int)), .ro (.int c), .ro (.int g), x] : G).set 3 (.ro (.int b)) = [.ro (.lst (ns.map D.int)), .ro (.int c), .ro (.int g), .ro (.int b)] from rfl, st g b g1 g2 b1 b2]
    show z0n _ 3 _ [.ro (.lst (ns.map D.int)), .ro (.int c), .ro (.int 1), .no] = _
    rw [sf 1 2 _ _ (by omega) (by omega) (by omega) (by omega), sf _ 198 _ _ a1 (by omega) (by omega) (by omega), sf _ 19602 _ _ a3 (by omega) (by omega) (by omega), sf _ 1940598 _ _ a5 (by omega) (by omega) (by omega)]
    rfl
  · have e1 : (c % 2 == 1) = false := by simpa using h
    refine z1t (by walk_at "evs"; simp only [e1]) ?_
    exact fin c _ _ (by omega) (by omega)
end L3
namespace L3
open PySem PySem.Spec PyProof.Rows L2
noncomputable abbrev St := L2.St
noncomputable instance : Monad R where
  pure := R.ok
  bind := R.bind
mutual
noncomputable def Is (K : PySem.W.Frag) (H : Hp) : D -> V -> Prop
  | .non, v => v = .non
  | .bl b, v => v = .bl b
  | .int i, v => v = .int i
  | .str x, v => v = .str x
  | .tup ds, v => ∃ a xs, v = .ref a /\ SqT K H a xs /\ IsAll K H ds xs
  | .lst ds, v => ∃ a xs, v = .ref a /\ SqL K H a xs /\ IsAll K H ds xs
  | .dct, v => ∃ a ob, v = .ref a /\ H a = some (.frz ob (.own 0)) /\ ob.cls = .type "dict"
  | .exc c, v => ∃ e oe C, v = .ref e /\ H e = some (.frz oe (.own 0)) /\ oe.cls = .ref C /\ PySem.W.nsIn K mainGlobals c.nm = some (some (.ref C))
noncomputable def IsAll (K : PySem.W.Frag) (H : Hp) : List D -> List V -> Prop
  | [], xs => xs = []
  | d :: ds, xs => ∃ x r, xs = x :: r /\ Is K H d x /\ IsAll K H ds r
end
structure Sub (K : PySem.W.Frag) (H H' : Hp) : Prop where
  t : ∀ a xs, SqT K H a xs -> SqT K H' a xs
  l : ∀ a xs, SqL K H a xs -> SqL K H' a xs
  x : ∀ a o u, H a = some (.frz o u) -> H' a = some (.frz o u)
theorem z1c {K : PySem.W.Frag} {H H' : Hp} {a : Addr} {xs : List V} (e : Same H H') (h : SqT K H a xs) : SqT K H' a xs := by
  rcases h with (h | ⟨o, h⟩) | h
  · exact .inl (.inl (e _ _ h))
  · exact .inl (.inr ⟨o, e _ _ h⟩)
  · exact .inr h
theorem Sub.of_same {K : PySem.W.Frag} {H H' : Hp} (e : Same H H') : Sub K H H' := ⟨fun _ _ h => z1c e h, fun _ _ h => e.seq h, fun _ _ _ h => e _ _ h⟩
theorem Sub.refl {K : PySem.W.Frag} {H : Hp} : Sub K H H := ⟨fun _ _ h => h, fun _ _ h => h, fun _ _ _ h => h⟩
mutual
theorem Is.sub {K : PySem.W.Frag} {H H' : Hp} (s : Sub K H H') : ∀ (d : D) (v : V), Is K H d v -> Is K H' d v
  | .non, _, h => h
  | .bl _, _, h => h
  | .int _, _, h => h
  | .str _, _, h => h
  | .tup ds, v, h => by
    unfold Is at h ⊢
    obtain ⟨a, xs, e, h1, h2⟩ := h
    exact ⟨a, xs, e, s.t a xs h1, IsAll.sub s ds xs h2⟩
  | .lst ds, v, h => by
    unfold Is at h ⊢
    obtain ⟨a, xs, e, h1, h2⟩ := h
    exact ⟨a, xs, e, s.l a xs h1, IsAll.sub s ds xs h2⟩
  | .dct, v, h => by
    unfold Is at h ⊢
    obtain ⟨a, ob, e, h1, h2⟩ := h
    exact ⟨a, ob, e, s.x a ob _ h1, h2⟩
  | .exc c, v, h => by
    unfold Is at h ⊢
    obtain ⟨a, oe, C, e, h1, h2⟩ := h
    exact ⟨a, oe, C, e, s.x a oe _ h1, h2⟩
theorem IsAll.sub {K : PySem.W.Frag} {H H' : Hp} (s : Sub K H H') : ∀ (ds : List D) (xs : List V), IsAll K H ds xs -> IsAll K H' ds xs
  | [], _, h => h
  | d :: ds, xs, h => by
    unfold IsAll at h ⊢
    obtain ⟨x, r, e, h1, h2⟩ := h
    exact ⟨x, r, e, Is.sub s d x h1, IsAll.sub s ds r h2⟩
end
theorem Is.same {K : PySem.W.Frag} {H H' : Hp} {d : D} {v : V} (h : Is K H d v) (e : Same H H') : Is K H' d v := Is.sub (.of_same e) d v h
theorem IsAll.same {K : PySem.W.Frag} {H H' : Hp} {ds : List D} {xs : List V} (h : IsAll K H ds xs) (e : Same H H') : IsAll K H' ds xs := IsAll.sub (.of_same e) ds xs h
theorem Is.int_iff {K : PySem.W.Frag} {H : Hp} {i : Int} {v : V} : Is K H (.int i) v ↔ v = .int i := by unfold Is; rfl
theorem Is.bl_iff {K : PySem.W.Frag} {H : Hp} {b : Bool} {v : V} : Is K H (.bl b) v ↔ v = .bl b := by unfold Is; rfl
theorem Is.str_iff {K : PySem.W.Frag} {H : Hp} {x : Str} {v : V} : Is K H (.str x) v ↔ v = .str x := by unfold Is; rfl
theorem Is.non_iff {K : PySem.W.Frag} {H : Hp} {v : V} : Is K H .non v ↔ v = .non := by unfold Is; rfl
theorem Is.tup_iff {K : PySem.W.Frag} {H : Hp} {ds : List D} {v : V} : Is K H (.tup ds) v ↔ ∃ a xs, v = .ref a /\ SqT K H a xs /\ IsAll K H ds xs := by conv => lhs; unfold Is
theorem Is.lst_iff {K : PySem.W.Frag} {H : Hp} {ds : List D} {v : V} : Is K H (.lst ds) v ↔ ∃ a xs, v = .ref a /\ SqL K H a xs /\ IsAll K H ds xs := by conv => lhs; unfold Is
theorem IsAll.nil_iff {K : PySem.W.Frag} {H : Hp} {xs : List V} : IsAll K H [] xs ↔ xs = [] := by unfold IsAll; rfl
theorem IsAll.cons_iff {K : PySem.W.Frag} {H : Hp} {d : D} {ds : List D} {xs : List V} : IsAll K H (d :: ds) xs ↔ ∃ x r, xs = x :: r /\ Is K H d x /\ IsAll K H ds r := by conv => lhs; unfold IsAll
theorem IsAll.nil {K : PySem.W.Frag} {H : Hp} : IsAll K H [] [] := IsAll.nil_iff.mpr rfl
theorem IsAll.cons {K : PySem.W.Frag} {H : Hp} {d : D} {ds : List D} {x : V} {xs : List V} (h : Is K H d x) (t : IsAll K H ds xs) : IsAll K H (d :: ds) (x :: xs) := IsAll.cons_iff.mpr ⟨x, xs, rfl, h, t⟩
theorem IsAll.length {K : PySem.W.Frag} {H : Hp} : ∀ {ds : List D} {xs : List V}, IsAll K H ds xs -> ds.length = xs.length
  | [], xs, h => by rw [IsAll.nil_iff.mp h]; rfl
  | d :: ds, xs, h => by
    obtain ⟨x, r, rfl, _, t⟩ := IsAll.cons_iff.mp h
    rw [List.length_cons, List.length_cons, IsAll.length t]
theorem IsAll.get {K : PySem.W.Frag} {H : Hp} : ∀ {ds : List D} {xs : List V} {i : Nat} {d : D}, IsAll K H ds xs -> ds[i]? = some d -> ∃ x, xs[i]? = some x /\ Is K H d x
  | [], _, _, _, _, e => by simp at e
  | d :: ds, xs, 0, d', h, e => by
    obtain ⟨x, r, rfl, hx, t⟩ := IsAll.cons_iff.mp h
    simp at e; subst e
    exact ⟨x, rfl, hx⟩
  | d :: ds, xs, i + 1, d', h, e => by
    obtain ⟨x, r, rfl, hx, t⟩ := IsAll.cons_iff.mp h
    obtain ⟨y, e1, hy⟩ := IsAll.get (i := i) t (by simpa using e)
    exact ⟨y, by simpa using e1, hy⟩
theorem IsAll.getX {K : PySem.W.Frag} {H : Hp} {ds : List D} {xs : List V} {i : Nat} {x : V} (h : IsAll K H ds xs) (e : xs[i]? = some x) : ∃ d, ds[i]? = some d /\ Is K H d x := by
  have hi : i < xs.length := (List.getElem?_eq_some_iff.mp e).1
  have hd : i < ds.length := by rw [h.length]; exact hi
  obtain ⟨y, e1, hy⟩ := h.get (List.getElem?_eq_getElem hd)
  rw [e] at e1; cases e1
  exact ⟨_, List.getElem?_eq_getElem hd, hy⟩
theorem IsAll.append {K : PySem.W.Frag} {H : Hp} : ∀ {ds es : List D} {xs ys : List V}, IsAll K H ds xs -> IsAll K H es ys -> IsAll K H (ds ++ es) (xs ++ ys)
  | [], _, _, _, h, t => by rw [IsAll.nil_iff.mp h]; exact t
  | d :: ds, es, xs, ys, h, t => by
    obtain ⟨x, r, rfl, hx, tr⟩ := IsAll.cons_iff.mp h
    exact IsAll.cons hx (IsAll.append tr t)
theorem IsAll.drop {K : PySem.W.Frag} {H : Hp} : ∀ {ds : List D} {xs : List V} (n : Nat), IsAll K H ds xs -> IsAll K H (ds.drop n) (xs.drop n)
  | _, _, 0, h => h
  | [], xs, n + 1, h => by rw [IsAll.nil_iff.mp h]; exact IsAll.nil
  | d :: ds, xs, n + 1, h => by
    obtain ⟨x, r, rfl, hx, tr⟩ := IsAll.cons_iff.mp h
    exact IsAll.drop n tr
theorem IsAll.take {K : PySem.W.Frag} {H : Hp} : ∀ {ds : List D} {xs : List V} (n : Nat), IsAll K H ds xs -> IsAll K H (ds.take n) (xs.take n)
  | _, _, 0, _ => by rw [List.take_zero, List.take_zero]; exact IsAll.nil
  | [], xs, n + 1, h => by rw [IsAll.nil_iff.mp h]; exact IsAll.nil
  | d :: ds, xs, n + 1, h => by
    obtain ⟨x, r, rfl, hx, tr⟩ := IsAll.cons_iff.mp h
    exact IsAll.cons hx (IsAll.take n tr)
theorem IsAll.set {K : PySem.W.Frag} {H : Hp} {d' : D} {x' : V} (q : Is K H d' x') : ∀ {ds : List D} {xs : List V} (n : Nat), IsAll K H ds xs -> IsAll K H (ds.set n d') (xs.set n x')
  | [], xs, n, h => by rw [IsAll.nil_iff.mp h]; exact IsAll.nil
  | d :: ds, xs, 0, h => by
    obtain ⟨x, r, rfl, hx, tr⟩ := IsAll.cons_iff.mp h
    exact IsAll.cons q tr
  | d :: ds, xs, n + 1, h => by
    obtain ⟨x, r, rfl, hx, tr⟩ := IsAll.cons_iff.mp h
    exact IsAll.cons hx (IsAll.set q n tr)
theorem IsAll.ints {K : PySem.W.Frag} {H : Hp} : ∀ ns : List Int, IsAll K H (ns.map D.int) (ns.map V.int)
  | [] => IsAll.nil
  | n :: ns => IsAll.cons (Is.int_iff.mpr rfl) (IsAll.ints ns)
noncomputable def hid (F : List Addr) (H : Hp) : Hp := fun b => if b ∈ F then none else H b
theorem z8h {F : List Addr} {H : Hp} {b : Addr} (h : b ∈ F) : hid F H b = none := by unfold hid; rw [if_pos h]
theorem z0l {F : List Addr} {H : Hp} {b : Addr} (h : b ∉ F) : hid F H b = H b := by unfold hid; rw [if_neg h]
theorem z0z {F : List Addr} {H : Hp} {b : Addr} {o : HO} (h : hid F H b = some o) : b ∉ F /\ H b = some o := by
  unfold hid at h
  by_cases q : b ∈ F
  · rw [if_pos q] at h; cases h
  · rw [if_neg q] at h; exact ⟨q, h⟩
noncomputable def FOk (H : Hp) (F : List Addr) : Prop := ∀ b ∈ F, ∃ xs, H b = some (.lst xs)
theorem FOk.same {H H' : Hp} {F : List Addr} (h : FOk H F) (e : Same H H') : FOk H' F := fun b hb => let ⟨xs, q⟩ := h b hb; ⟨xs, e _ _ q⟩
theorem FOk.nil {H : Hp} : FOk H [] := fun b hb => by simp at hb
theorem FOk.cons {H : Hp} {F : List Addr} {a : Addr} {xs : List V} (h : FOk H F) (e : H a = some (.lst xs)) : FOk H (a :: F) := fun b hb => by
  rcases List.mem_cons.mp hb with z | z
  · subst z; exact ⟨xs, e⟩
  · exact h b z
theorem z7m {H : Hp} {F : List Addr} {a : Addr} : Same (hid (a :: F) H) (hid F H) := fun b o h => by
  obtain ⟨h1, h2⟩ := z0z h
  rw [z0l fun z => h1 (List.mem_cons_of_mem _ z)]; exact h2
theorem z6s {H H' : Hp} {F : List Addr} {a : Addr} (e : Same H H') (hn : H a = none) : Same (hid F H) (hid (a :: F) H') := fun b o h => by
  obtain ⟨h1, h2⟩ := z0z h
  rw [z0l fun z => (List.mem_cons.mp z).elim (fun q => by rw [q, hn] at h2; cases h2) h1]
  exact e _ _ h2
theorem z2z {H H' : Hp} {F : List Addr} (e : Same H H') : Same (hid F H) (hid F H') := fun b o h => by
  obtain ⟨h1, h2⟩ := z0z h
  rw [z0l h1]; exact e _ _ h2
theorem z1a {H : Hp} {F : List Addr} : Same (hid F H) H := fun b o h => (z0z h).2
theorem z8n {K : PySem.W.Frag} {H : Hp} {F : List Addr} {a : Addr} {xs : List V} (fo : FOk H F) (h : SqT K H a xs) : SqT K (hid F H) a xs := by
  rcases h with (h1 | ⟨o, h1⟩) | h1
  · refine .inl (.inl ?_)
    rw [z0l fun q => by obtain ⟨ys, z⟩ := fo a q; rw [h1] at z; cases z]; exact h1
  · refine .inl (.inr ⟨o, ?_⟩)
    rw [z0l fun q => by obtain ⟨ys, z⟩ := fo a q; rw [h1] at z; cases z]; exact h1
  · exact .inr h1
mutual
theorem Is.hid {K : PySem.W.Frag} {H : Hp} {F : List Addr} (fo : FOk H F) : ∀ (d : D) (v : V), d.noL = true -> Is K H d v -> Is K (hid F H) d v
  | .non, _, _, h => h
  | .bl _, _, _, h => h
  | .int _, _, _, h => h
  | .str _, _, _, h => h
  | .tup ds, v, n, h => by
    obtain ⟨a, xs, e, h1, h2⟩ := Is.tup_iff.mp h
    exact Is.tup_iff.mpr ⟨a, xs, e, z8n fo h1, IsAll.hid fo ds xs (by simpa [D.noL] using n) h2⟩
  | .lst ds, v, n, h => by simp [D.noL] at n
  | .dct, v, n, h => by simp [D.noL] at n
  | .exc c, v, n, h => by
    unfold Is at h ⊢
    obtain ⟨a, oe, C, e, h1, h2⟩ := h
    refine ⟨a, oe, C, e, ?_, h2⟩
    rw [z0l fun q => by obtain ⟨ys, z⟩ := fo a q; rw [h1] at z; cases z]; exact h1
theorem IsAll.hid {K : PySem.W.Frag} {H : Hp} {F : List Addr} (fo : FOk H F) : ∀ (ds : List D) (xs : List V), D.noLs ds = true -> IsAll K H ds xs -> IsAll K (hid F H) ds xs
  | [], _, _, h => h
  | d :: ds, xs, n, h => by
    obtain ⟨x, r, e, h1, h2⟩ := IsAll.cons_iff.mp h
    have n' : d.noL = true /\ D.noLs ds = true := by simpa [D.noLs] using n
    exact IsAll.cons_iff.mpr ⟨x, r, e, Is.hid fo d x n'.1 h1, IsAll.hid fo ds r n'.2 h2⟩
end
structure Rel (K : PySem.W.Frag) (H : Hp) (F : List Addr) (Γ : G) (σ : St) : Prop where
  len : Γ.length = σ.length
  ro : ∀ (i : Nat) d, Γ[i]? = some (.ro d) -> ∃ v, σ[i]? = some (some v) /\ Is K (hid F H) d v
  own : ∀ (i : Nat) ds, Γ[i]? = some (.own ds) -> ∃ a xs, σ[i]? = some (some (.ref a)) /\ a ∈ F /\ H a = some (.lst xs) /\ IsAll K (hid F H) ds xs
  inj : ∀ (i j : Nat) ds es a, Γ[i]? = some (.own ds) -> Γ[j]? = some (.own es) -> σ[i]? = some (some (.ref a)) -> σ[j]? = some (some (.ref a)) -> i = j
theorem Rel.same {K : PySem.W.Frag} {H H' : Hp} {F : List Addr} {Γ : G} {σ : St} (r : Rel K H F Γ σ) (e : Same H H') : Rel K H' F Γ σ :=
  ⟨r.len, fun i d h => let ⟨v, h1, h2⟩ := r.ro i d h; ⟨v, h1, h2.same (z2z e)⟩, fun i ds h => let ⟨a, xs, h1, h2, h3, h4⟩ := r.own i ds h; ⟨a, xs, h1, h2, e _ _ h3, h4.same (z2z e)⟩, r.inj⟩
theorem Rel.look {K : PySem.W.Frag} {H : Hp} {F : List Addr} {Γ : G} {σ : St} (r : Rel K H F Γ σ) {i : Nat} {d : D} (h : lk Γ i = .ok d) : ∃ v, σ[i]? = some (some v) /\ Is K H d v := by
  unfold lk at h
  cases e : Γ[i]? with
  | none => rw [e] at h; cases h
  | some en =>
    rw [e] at h
    cases en with
    | no => cases h
    | ro d' => cases h; obtain ⟨v, h1, h2⟩ := r.ro i d e; exact ⟨v, h1, h2.same z1a⟩
    | own ds =>
      cases h
      obtain ⟨a, xs, h1, h2, h3, h4⟩ := r.own i ds e
      exact ⟨.ref a, h1, Is.lst_iff.mpr ⟨a, xs, rfl, SqL.of h3, h4.same z1a⟩⟩
theorem Rel.lookr {K : PySem.W.Frag} {H : Hp} {F : List Addr} {Γ : G} {σ : St} (r : Rel K H F Γ σ) {i : Nat} {d : D} (h : lkr Γ i = .ok d) : ∃ v, σ[i]? = some (some v) /\ Is K (hid F H) d v := by
  unfold lkr at h
  cases e : Γ[i]? with
  | none => rw [e] at h; cases h
  | some en =>
    rw [e] at h
    cases en with
    | no => cases h
    | ro d' => cases h; exact r.ro i d e
    | own ds => cases h
structure Ext (H : Hp) (F : List Addr) (H' : Hp) (F' : List Addr) : Prop where
  keep : ∀ b o, b ∉ F -> H b = some o -> H' b = some o
  old : ∀ b, b ∈ F' -> b ∈ F ∨ H b = none
theorem Ext.refl {H : Hp} {F : List Addr} : Ext H F H F := ⟨fun _ _ _ h => h, fun _ h => .inl h⟩
theorem Ext.of_same {H H' : Hp} {F : List Addr} (e : Same H H') : Ext H F H' F := ⟨fun _ _ _ h => e _ _ h, fun _ h => .inl h⟩
theorem Ext.trans {H H1 H2 : Hp} {F F1 F2 : List Addr} (a : Ext H F H1 F1) (b : Ext H1 F1 H2 F2) : Ext H F H2 F2 where
  keep := fun c o hc h => b.keep c o (fun z => (a.old c z).elim hc fun n => by rw [h] at n; cases n) (a.keep c o hc h)
  old := fun c hc => by
    rcases b.old c hc with h | h
    · exact a.old c h
    · by_cases q : c ∈ F
      · exact .inl q
      · refine .inr ?_
        cases e : H c with
        | none => rfl
        | some o => rw [a.keep c o q e] at h; cases h
theorem Ext.same {H H' : Hp} {F' : List Addr} (e : Ext H [] H' F') : Same H H' := fun b o h => e.keep b o (by simp) h
theorem Ext.hid {H H' : Hp} {F F' : List Addr} (e : Ext H F H' F') : Same (hid F H) (hid F' H') := fun b o h => by
  obtain ⟨h1, h2⟩ := z0z h
  have h3 := e.keep b o h1 h2
  rw [z0l fun z => (e.old b z).elim h1 fun n => by rw [h2] at n; cases n]
  exact h3
noncomputable def z4e (X : Cx) (pins : List (Addr × Obj)) (σ : St) (H : Hp) (c : Er) (x : Value) (s : Shared) : Prop :=
  Inv X pins σ H s /\ ∃ (e C : Addr) (oe : Obj) (vs : Array Value), x = .ref e /\ X.mg c.nm = some (.ref C) /\ H e = none /\ X.s₀.heap.get? e = none /\ e ≠ X.env.locals /\ (∀ y k, X.env.cells.lookup y = some k -> k ≠ e) /\ (∀ p ∈ X.pn ++ pins, p.1 ≠ e) /\
    s.heap.get? e = some oe /\ oe.cls = .ref C /\ oe.data = .fields vs /\ (∃ a0, vs[0]? = some a0) /\
    (vs[1]? = some .none ∨ ∃ (T : Addr) (oT : Obj) (ts : Array Value), vs[1]? = some (.ref T) /\ H T = none /\ X.s₀.heap.get? T = none /\ T ≠ X.env.locals /\ (∀ y k, X.env.cells.lookup y = some k -> k ≠ T) /\ (∀ p ∈ X.pn ++ pins, p.1 ≠ T) /\ T ≠ e /\
      s.heap.get? T = some oT /\ oT.data = .fields ts /\ (ts[3]? = some .none ∨ ∃ L, X.env.frame = some L /\ ts[3]? = some (rawInt L)))
noncomputable def Post (X : Cx) (pins : List (Addr × Obj)) (σ : St) (H : Hp) (r : R D) (u : Value) (s' : Shared) : Prop :=
  ∃ d v H', r = .ok d /\ Inv X pins σ H' s' /\ RelV v u /\ Same H H' /\ Is X.K H' d v
noncomputable def z0g {α : Type} (X : Cx) (pins : List (Addr × Obj)) (σ : St) (H : Hp) (r : R α) (x : Value) (s' : Shared) : Prop :=
  ∃ c H', r = .er c /\ Same H H' /\ z4e X pins σ H' c x s'
theorem z0g.bind {α β : Type} {X : Cx} {pins : List (Addr × Obj)} {σ : St} {H : Hp} {r : R α} {x : Value} {s' : Shared} (h : z0g X pins σ H r x s') (k : α -> R β) : z0g X pins σ H (r >>= k) x s' := by
  obtain ⟨c, H', e, h1, h2⟩ := h
  exact ⟨c, H', R.stop e k, h1, h2⟩
theorem z0g.later {α β : Type} {X : Cx} {pins : List (Addr × Obj)} {σ : St} {H H1 : Hp} {r : R α} {a : α} {k : α -> R β} {x : Value} {s' : Shared} (e : r = .ok a) (s : Same H H1) (h : z0g X pins σ H1 (k a) x s') : z0g X pins σ H (r >>= k) x s' := by
  obtain ⟨c, H', e1, h1, h2⟩ := h
  exact ⟨c, H', (R.step e k).trans e1, s.trans h1, h2⟩
structure PD (X : Cx) (e : Expr) (g : G -> R D) : Prop where
  run : ∀ (pins : List (Addr × Obj)) (s : Shared) (σ : St) (H : Hp) (F : List Addr) (Γ : G), Inv X pins σ H s -> FOk H F -> Rel X.K H F Γ σ -> g Γ ≠ .no ->
    wpAny (model X.prog X.w) X.A (eval e X.env) (Post X pins σ H (g Γ)) (z0g X pins σ H (g Γ)) s
structure PDr (X : Cx) (e : Expr) (g : G -> R D) : Prop where
  run : ∀ (pins : List (Addr × Obj)) (s : Shared) (σ : St) (H : Hp) (F : List Addr) (Γ : G), Inv X pins σ H s -> FOk H F -> Rel X.K H F Γ σ -> g Γ ≠ .no ->
    wpAny (model X.prog X.w) X.A (eval e X.env) (fun u s' => ∃ d v H', g Γ = .ok d /\ Inv X pins σ H' s' /\ RelV v u /\ Same H H' /\ Is X.K (hid F H') d v) (z0g X pins σ H (g Γ)) s
structure PF (X : Cx) (e : Expr) (g : G -> R (List D)) : Prop where
  run : ∀ (pins : List (Addr × Obj)) (s : Shared) (σ : St) (H : Hp) (F : List Addr) (Γ : G), Inv X pins σ H s -> FOk H F -> Rel X.K H F Γ σ -> g Γ ≠ .no ->
    wpAny (model X.prog X.w) X.A (eval e X.env) (fun u s' => ∃ ds a xs H', g Γ = .ok ds /\ Inv X pins σ H' s' /\ u = .ref a /\ Same H H' /\ H a = none /\ H' a = some (.lst xs) /\ IsAll X.K (hid (a :: F) H') ds xs) (z0g X pins σ H (g Γ)) s
structure PTD (X : Cx) (e : Expr) (g : G -> R Bool) : Prop where
  run : ∀ (pins : List (Addr × Obj)) (s : Shared) (σ : St) (H : Hp) (F : List Addr) (Γ : G), Inv X pins σ H s -> FOk H F -> Rel X.K H F Γ σ -> g Γ ≠ .no ->
    wpAny (model X.prog X.w) X.A (isTrue e X.env (eval e X.env)) (fun b s' => ∃ H', g Γ = .ok b /\ Inv X pins σ H' s' /\ Same H H') (z0g X pins σ H (g Γ)) s
structure PWD (X : Cx) (e : Expr) (g : G -> R Bool) : Prop where
  run : ∀ (whole : Sem Value) (pins : List (Addr × Obj)) (s : Shared) (σ : St) (H : Hp) (F : List Addr) (Γ : G), Inv X pins σ H s -> FOk H F -> Rel X.K H F Γ σ -> g Γ ≠ .no ->
    wpAny (model X.prog X.w) X.A (isTrue e X.env whole) (fun b s' => ∃ H', g Γ = .ok b /\ Inv X pins σ H' s' /\ Same H H') (z0g X pins σ H (g Γ)) s
theorem PWD.pt {X : Cx} {e : Expr} {g : G -> R Bool} (h : PWD X e g) : PTD X e g := ⟨h.run _⟩
structure PAD (X : Cx) (es : List Expr) (g : G -> R (List D)) : Prop where
  run : ∀ (pos : Pos) (pins : List (Addr × Obj)) (s : Shared) (σ : St) (H : Hp) (F : List Addr) (Γ : G), Inv X pins σ H s -> FOk H F -> Rel X.K H F Γ σ -> g Γ ≠ .no ->
    wpAny (model X.prog X.w) X.A (spliced (backTo pos (starEach es X.env))) (fun us s' => ∃ ds vs H', g Γ = .ok ds /\ Inv X pins σ H' s' /\ Vals vs us /\ Same H H' /\ IsAll X.K H' ds vs) (z0g X pins σ H (g Γ)) s
section
variable {X : Cx} {e a b c : Expr} {g ga gb gc : G -> R D} {pos : Pos}
theorem PD.ro (h : PD X e g) : PDr X e (gNL g) := ⟨fun pins s σ H F Γ I fo rl hg =>
  wpAny_mono (h.run pins s σ H F Γ I fo rl (R.left hg)) (fun _ _ ⟨d, v, H', e1, I', r, S, i⟩ => by
    have hgx := R.next hg e1
    obtain ⟨n, e2⟩ := R.guard_ne hgx
    exact ⟨d, v, H', (R.step e1 _).trans e2, I', r, S, Is.hid (fo.same S) d v n i⟩) fun _ _ x => x.bind _⟩
theorem PF.ro {g : G -> R (List D)} (h : PF X e g) : PDr X e (gL g) := ⟨fun pins s σ H F Γ I fo rl hg =>
  wpAny_mono (h.run pins s σ H F Γ I fo rl (R.left hg)) (fun _ _ ⟨ds, p, xs, H', e1, I', eu, S, hn, hp, i⟩ => by
    have hF : p ∉ F := fun z => by obtain ⟨ys, q⟩ := fo p z; rw [hn] at q; cases q
    exact ⟨.lst ds, .ref p, H', (R.step e1 _), I', eu, S, Is.lst_iff.mpr ⟨p, xs, rfl, SqL.of (by rw [z0l hF]; exact hp), i.same z7m⟩⟩) fun _ _ x => x.bind _⟩
theorem PD.of {t : TE} (h : PE X.nox e t) (hq : ∀ σ H F Γ, FOk H F -> Rel X.K H F Γ σ -> g Γ ≠ .no -> t σ H fun v H' => ∃ d, g Γ = .ok d /\ Same H H' /\ Is X.K H' d v) : PD X e g := ⟨fun pins s σ H F Γ I fo rl hg =>
  wpAny_mono (h pins s σ H _ (I.wish _) (hq σ H F Γ fo rl hg)) (fun _ _ ⟨v, H', I', r, d, e1, S, i⟩ => ⟨d, v, H', e1, I'.unwish, r, S, i⟩) fun _ _ z => False.elim z⟩
theorem z0a (i : Nat) {x : Str} (hN : X.N[i]? = some x := by rfl) (hv : Vis X.env.scope x := by first | exact Or.inl rfl | exact Or.inr (Or.inl rfl) | exact Or.inr (Or.inr rfl)) (hd : (x == ("__debug__" : Str)) = false := by decide)
    (hcd : (x == ("__classdict__" : Str)) = false := by decide) : PD X (.Name x pos) (gV i) :=
  PD.of (t := tVar i) (z4q (X := X.nox) hN hv hd hcd) fun σ H F Γ fo rl hg => by
    obtain ⟨d, e⟩ := y2p hg
    obtain ⟨v, h1, h2⟩ := rl.look e
    exact ⟨v, h1, d, e, .refl _, h2⟩
theorem z8y (i : Nat) {x : Str} (hN : X.N[i]? = some x := by rfl) (hv : Vis X.env.scope x := by first | exact Or.inl rfl | exact Or.inr (Or.inl rfl) | exact Or.inr (Or.inr rfl)) (hd : (x == ("__debug__" : Str)) = false := by decide)
    (hcd : (x == ("__classdict__" : Str)) = false := by decide) : PDr X (.Name x pos) (gVr i) := by
  refine ⟨fun pins s σ H F Γ I fo rl hg => ?_⟩
  obtain ⟨d, e⟩ := y1f hg
  obtain ⟨v, h1, h2⟩ := rl.lookr e
  exact wpAny_mono (z4q (X := X.nox) hN hv hd hcd pins s σ H (fun v' H' => v' = v /\ H' = H) (I.wish _) ⟨v, h1, rfl, rfl⟩) (fun _ _ ⟨v', H', I', r, e1, e2⟩ => by
    subst e1 e2
    exact ⟨d, v', H', e, I'.unwish, r, .refl _, h2⟩) fun _ _ z => False.elim z
theorem z0e {i : Int} {j} : PD X (.Constant (.int i) j pos) (gC (.int i)) := PD.of (t := tC (.int i)) y0n fun _ _ _ _ _ _ _ => ⟨_, rfl, .refl _, Is.int_iff.mpr rfl⟩
theorem z5k {b : Bool} {j} : PD X (.Constant (.bool b) j pos) (gC (.bl b)) := PD.of (t := tC (.bl b)) y2j fun _ _ _ _ _ _ _ => ⟨_, rfl, .refl _, Is.bl_iff.mpr rfl⟩
noncomputable def OpD (X : Cx) (f : Value -> Value -> Sem Value) (g : D -> D -> R D) : Prop := ∃ r : R2, OpR X.nox f r /\ ∀ H x y dx dy, Is X.K H dx x -> Is X.K H dy y -> g dx dy ≠ .no -> r x y H fun z H' => ∃ d, g dx dy = .ok d /\ Same H H' /\ Is X.K H' d z
theorem OpD.run {f : Value -> Value -> Sem Value} {g : D -> D -> R D} (h : OpD X f g) {pins : List (Addr × Obj)} {s : Shared} {σ : St} {H : Hp} {x y : V} {v u : Value} {dx dy : D} (I : Inv X pins σ H s) (rx : RelV x v) (ry : RelV y u)
    (ix : Is X.K H dx x) (iy : Is X.K H dy y) (hg : g dx dy ≠ .no) {E : Value -> Shared -> Prop} : wpAny (model X.prog X.w) X.A (f v u) (Post X pins σ H (g dx dy)) E s := by
  obtain ⟨r, ho, hr⟩ := h
  exact wpAny_mono (ho pins s σ H x y v u _ (I.wish _) rx ry (hr H x y dx dy ix iy hg)) (fun _ _ ⟨z, H', I', rz, d, e, S, i⟩ => ⟨d, z, H', e, I'.unwish, rz, S, i⟩) fun _ _ z => False.elim z
theorem Post.bind {pins : List (Addr × Obj)} {σ : St} {H H1 : Hp} {α : Type} {r : R α} {k : α -> R D} {a : α} {u : Value} {s' : Shared} (e : r = .ok a) (S : Same H H1) (h : Post X pins σ H1 (k a) u s') : Post X pins σ H (r >>= k) u s' := by
  obtain ⟨d, v, H', e1, I, rv, S1, i⟩ := h
  exact ⟨d, v, H', (R.step e k).trans e1, I, rv, S.trans S1, i⟩
theorem binD {g2 : D -> D -> R D} {f : Value -> Value -> Sem Value} (ho : OpD X f g2) (ha : PD X a ga) (hb : PD X b gb) {pins : List (Addr × Obj)} {s : Shared} {σ : St} {H : Hp} {F : List Addr} {Γ : G} (I : Inv X pins σ H s) (fo : FOk H F) (rl : Rel X.K H F Γ σ) (hg : gBin g2 ga gb Γ ≠ .no) :
    wpAny (model X.prog X.w) X.A (eval a X.env) (fun v s₁ => wpAny (model X.prog X.w) X.A (eval b X.env) (fun u s₂ => wpAny (model X.prog X.w) X.A (f v u) (Post X pins σ H (gBin g2 ga gb Γ)) (z0g X pins σ H (gBin g2 ga gb Γ)) s₂) (z0g X pins σ H (gBin g2 ga gb Γ)) s₁) (z0g X pins σ H (gBin g2 ga gb Γ)) s := by
  refine wpAny_mono (ha.run pins s σ H F Γ I fo rl (R.left hg)) (fun v s1 ⟨dx, x, H1, e1, I1, r1, S1, i1⟩ => ?_) fun _ _ x => x.bind _
  have hg1 := R.next hg e1
  refine wpAny_mono (hb.run pins s1 σ H1 F Γ I1 (fo.same S1) (rl.same S1) (R.left hg1)) (fun u s2 ⟨dy, y, H2, e2, I2, r2, S2, i2⟩ => ?_) fun _ _ x => z0g.later e1 S1 (x.bind _)
  have hg2 := R.next hg1 e2
  exact thn (ho.run I2 r1 r2 (i1.same S2) i2 hg2) fun _ _ q => Post.bind e1 S1 (Post.bind e2 S2 q)
theorem z0v {op : Operator} {g2 : D -> D -> R D} (ho : OpD X (binaryOp op) g2) (ha : PD X a ga) (hb : PD X b gb) : PD X (.BinOp a op b pos) (gBin g2 ga gb) := ⟨fun pins s σ H F Γ I fo rl hg => wpAny_BinOp (binD ho ha hb I fo rl hg)⟩
theorem z7z {op : CmpOp} {g2 : D -> D -> R D} (ho : OpD X (compareOp op) g2) (ha : PD X a ga) (hb : PD X b gb) (hm : behindInMarks op b = false) : PD X (.Compare a [op] [b] pos) (gBin g2 ga gb) := ⟨fun pins s σ H F Γ I fo rl hg => wpAny_Compare1 (binD ho ha hb I fo rl hg) hm⟩
theorem z3k {pins : List (Addr × Obj)} {σ : St} {H : Hp} {r : R D} {u : Value} {s' : Shared} (h : Post X pins σ H r u s') (hg : (r >>= asB) ≠ .no) : ∃ b H', u = .bool b /\ (r >>= asB) = .ok b /\ Inv X pins σ H' s' /\ Same H H' := by
  obtain ⟨d, v, H', e1, I, rv, S, i⟩ := h
  obtain ⟨b, rfl, e2⟩ := z7d (R.next hg e1)
  rw [Is.bl_iff.mp i] at rv
  exact ⟨b, H', rv, (R.step e1 _).trans e2, I, S⟩
theorem z0s {op : CmpOp} {g2 : D -> D -> R D} (ho : OpD X (compareOp op) g2) (ha : PD X a ga) (hb : PD X b gb) (hm : behindInMarks op b = false) : PTD X (.Compare a [op] [b] pos) (gT (gBin g2 ga gb)) := by
  refine ⟨fun pins s σ H F Γ I fo rl hg => ?_⟩
  refine wpAny_isTrue_Compare1 (wpAny_mono (binD ho ha hb I fo rl (R.left hg)) (fun v s1 h1 => wpAny_mono h1 (fun u s2 h2 => wpAny_mono h2 (fun z s3 h3 => ?_) fun _ _ x => x.bind _) fun _ _ x => x.bind _) fun _ _ x => x.bind _) hm
  obtain ⟨b, H', rfl, e, I', S⟩ := z3k h3 hg
  exact wpAny_truthy_bool ⟨H', e, I', S⟩
theorem z2f (ha : PD X a ga) (he : ∀ whole, isTrue a X.env whole = (do let v <- whole; standAt a.pos; holding [v] (truthy v)) := by intro _; rfl) : PTD X a (gT ga) := by
  refine ⟨fun pins s σ H F Γ I fo rl hg => ?_⟩
  refine isTrue_plain (wpAny_mono (ha.run pins s σ H F Γ I fo rl (R.left hg)) (fun v s1 h3 => ?_) fun _ _ x => x.bind _) (he _)
  obtain ⟨b, H', rfl, e, I', S⟩ := z3k h3 hg
  exact wpAny_truthy_bool ⟨H', e, I', S⟩
variable {gA gB : G -> R Bool} {rest : List Expr}
theorem z8t (ha : PTD X a gA) : PWD X (.BoolOp .Or [a] pos) gA := by
  refine ⟨fun wh pins s σ H F Γ I fo rl hg => ?_⟩
  refine isTrue_or (thn (ha.run pins s σ H F Γ I fo rl hg) fun c s1 e => ?_)
  cases c with
  | false => exact isTrue_or_nil e
  | true => exact e
theorem z5w (ha : PTD X a gA) (hb : PWD X (.BoolOp .Or (b :: rest) pos) gB) : PWD X (.BoolOp .Or (a :: b :: rest) pos) (gOr gA gB) := by
  refine ⟨fun wh pins s σ H F Γ I fo rl hg => ?_⟩
  refine isTrue_or (wpAny_mono (ha.run pins s σ H F Γ I fo rl (R.left hg)) (fun c s1 ⟨H1, e1, I1, S1⟩ => ?_) fun _ _ x => x.bind _)
  have hg1 := R.next hg e1
  cases c with
  | false => exact wpAny_mono (hb.run wh pins s1 σ H1 F Γ I1 (fo.same S1) (rl.same S1) hg1) (fun _ _ ⟨H2, e2, I2, S2⟩ => ⟨H2, (R.step e1 _).trans e2, I2, S1.trans S2⟩) fun _ _ x => z0g.later e1 S1 x
  | true => exact ⟨H1, R.step e1 _, I1, S1⟩
theorem z2g (ha : PTD X a gA) : PTD X (.UnaryOp .Not a pos) (gNot gA) := ⟨fun pins s σ H F Γ I fo rl hg =>
  isTrue_not (wpAny_mono (ha.run pins s σ H F Γ I fo rl (R.left hg)) (fun c s1 ⟨H1, e1, I1, S1⟩ => ⟨H1, R.step e1 _, I1, S1⟩) fun _ _ x => x.bind _)⟩
theorem y0o {op} (h : PD X a ga) : PD X (.BoolOp op [a] pos) ga := ⟨fun pins s σ H F Γ I fo rl hg => BoolOp_one (h.run pins s σ H F Γ I fo rl hg)⟩
theorem y0s (ha : PD X a ga) (hb : PD X (.BoolOp .And (b :: rest) pos) gb) : PD X (.BoolOp .And (a :: b :: rest) pos) (z7o ga gb) := by
  refine ⟨fun pins s σ H F Γ I fo rl hg => ?_⟩
  refine BoolOp_and (wpAny_mono (ha.run pins s σ H F Γ I fo rl (R.left hg)) (fun v s1 ⟨d, x, H1, e1, I1, r1, S1, i1⟩ => ?_) fun _ _ x => x.bind _)
  have hg1 := R.next hg e1
  obtain ⟨k, rfl, e2⟩ := z7d (R.left hg1)
  have hg2 := R.next hg1 e2
  rw [Is.bl_iff.mp i1] at r1
  cases r1
  refine wpAny_truthy_bool ?_
  cases k with
  | true => exact wpAny_mono (hb.run pins s1 σ H1 F Γ I1 (fo.same S1) (rl.same S1) hg2) (fun _ _ q => Post.bind e1 S1 (Post.bind e2 (.refl _) q)) fun _ _ q => z0g.later e1 S1 (z0g.later e2 (.refl _) q)
  | false => exact Post.bind e1 S1 (Post.bind e2 (.refl _) ⟨.bl false, .bl false, H1, rfl, I1, rfl, .refl _, Is.bl_iff.mpr rfl⟩)
theorem y0p (ha : PD X a ga) : PD X (.UnaryOp .Not a pos) (z7n ga) := by
  refine ⟨fun pins s σ H F Γ I fo rl hg => ?_⟩
  refine UnaryOp_ (wpAny_mono (ha.run pins s σ H F Γ I fo rl (R.left hg)) (fun v s1 ⟨d, x, H1, e1, I1, r1, S1, i1⟩ => ?_) fun _ _ x => x.bind _)
  have hg1 := R.next hg e1
  obtain ⟨k, rfl, e2⟩ := z7d (R.left hg1)
  rw [Is.bl_iff.mp i1] at r1
  cases r1
  exact not_of (wpAny_truthy_bool (Post.bind e1 S1 (Post.bind e2 (.refl _) ⟨.bl (!k), .bl (!k), H1, rfl, I1, rfl, .refl _, Is.bl_iff.mpr rfl⟩)))
theorem y0q (ha : PD X a ga) : PD X (.UnaryOp .USub a pos) (gNeg ga) := by
  refine ⟨fun pins s σ H F Γ I fo rl hg => ?_⟩
  refine UnaryOp_ (wpAny_mono (ha.run pins s σ H F Γ I fo rl (R.left hg)) (fun v s1 ⟨d, x, H1, e1, I1, r1, S1, i1⟩ => ?_) fun _ _ x => x.bind _)
  have hg1 := R.next hg e1
  cases d with
  | int i =>
    rw [Is.int_iff.mp i1] at r1
    obtain ⟨t, rfl⟩ := r1
    exact neg_int (Post.bind e1 S1 ⟨.int (-i), .int (-i), H1, rfl, I1.tok _, ⟨_, rfl⟩, .refl _, Is.int_iff.mpr rfl⟩)
  | _ => exact absurd rfl hg1
variable {es : List Expr} {gs : G -> R (List D)}
theorem z0t : PAD X [] gNil := ⟨fun pos pins s σ H F Γ I fo rl hg => Calls.spliced_nil ⟨[], [], H, rfl, I, .nil, .refl _, IsAll.nil⟩⟩
theorem z0i (ha : PD X e g) (hr : PAD X es gs) (hs : starEach (e :: es) X.env = (false, eval e X.env) :: starEach es X.env := by rfl) : PAD X (e :: es) (gCons g gs) := by
  refine ⟨fun pos pins s σ H F Γ I fo rl hg => ?_⟩
  rw [hs]
  show wpAny _ _ (spliced ((false, eval e X.env) :: backTo pos (starEach es X.env))) _ _ s
  refine Calls.spliced_cons (wpAny_mono (ha.run pins s σ H F Γ I fo rl (R.left hg)) (fun u s1 ⟨d, x, H1, e1, I1, r1, S1, i1⟩ => ?_) fun _ _ x => x.bind _)
  have hg1 := R.next hg e1
  refine wpAny_mono (hr.run pos pins s1 σ H1 F Γ I1 (fo.same S1) (rl.same S1) (R.left hg1)) (fun us s2 ⟨ds, vs, H2, e2, I2, r2, S2, i2⟩ => ?_) fun _ _ x => z0g.later e1 S1 (x.bind _)
  exact ⟨d :: ds, x :: vs, H2, (R.step e1 _).trans (R.step e2 _), I2, .cons r1 r2, S1.trans S2, IsAll.cons (i1.same S2) i2⟩
theorem z2c {n : Nat} (h : n <= 1000) : n <= sizeLine := Nat.le_of_lt (z5t h)
theorem z2b {H : Hp} {p : Addr} (h : H p = none) (o : HO) : Same H (upd H p o) := fun b u q => by rw [z0k (z0r q h)]; exact q
theorem z7y (h : PAD X es gs) : PF X (.List es pos) (gLst gs) := by
  refine ⟨fun pins s σ H F Γ I fo rl hg => ?_⟩
  refine wpAny_List_spliced (wpAny_mono (h.run pos pins s σ H F Γ I fo rl (R.left hg)) (fun us s1 ⟨ds, vs, H1, e1, I1, r1, S1, i1⟩ => ?_) fun _ _ x => x.bind _)
  have hgx := R.next hg e1
  obtain ⟨⟨hl, hn⟩, e2⟩ := R.guard_ne hgx
  have hz : vs.length <= sizeLine := by rw [<- i1.length]; exact z2c hl
  refine ⟨by rw [<- r1.length]; exact hz, ?_⟩
  have hf : H1 s1.heap.objs.size = none := I1.hok.fresh (Nat.le_refl _)
  have S2 := z2b hf (.lst vs)
  have hH : H s1.heap.objs.size = none := S1.free hf
  refine ⟨ds, s1.heap.objs.size, vs, upd H1 s1.heap.objs.size (.lst vs), (R.step e1 _).trans e2, I1.laid (t' := s1.toks) (fun b u e => Heap.get?_push_of_some _ e) (Nat.le_refl _) ?_, rfl, S1.trans S2, hH, z0p, ?_⟩
  · exact ⟨hz, us, 0, r1, Heap.get?_push_size _ rfl⟩
  · exact IsAll.hid (((fo.same S1).same S2).cons z0p) ds vs hn (i1.same S2)
end
section
variable {X : Cx} {e a b c : Expr} {g ga gb gc : G -> R D} {pos : Pos}
theorem od_I {f : Value -> Value -> Sem Value} {C : Int -> Int -> Prop} [∀ i j, Decidable (C i j)] {v : Int -> Int -> V} {d : Int -> Int -> D} (hd : ∀ K H i j, Is K H (d i j) (v i j)) (ho : OpR X.nox f (rI C v)) :
    OpD X f (fun x y => match x, y with | .int i, .int j => R.guard (C i j) (.ok (d i j)) | _, _ => .no) := by
  refine ⟨_, ho, fun H x y dx dy ix iy hg => ?_⟩
  cases dx with
  | int i =>
    cases dy with
    | int j =>
      obtain ⟨hc, e⟩ := R.guard_ne (show R.guard (C i j) (.ok (d i j)) ≠ .no from hg)
      exact ⟨i, j, Is.int_iff.mp ix, Is.int_iff.mp iy, hc, d i j, e, .refl _, hd _ _ _ _⟩
    | _ => exact absurd rfl hg
  | _ => exact absurd rfl hg
theorem z9f {f : Value -> Value -> Sem Value} {v : Int -> Int -> V} {d : Int -> Int -> D} (hd : ∀ K H i j, Is K H (d i j) (v i j)) (ho : OpR X.nox f (rI0 v)) :
    OpD X f (fun x y => match x, y with | .int i, .int j => .ok (d i j) | _, _ => .no) := by
  refine ⟨_, ho, fun H x y dx dy ix iy hg => ?_⟩
  cases dx with
  | int i =>
    cases dy with
    | int j => exact ⟨i, j, Is.int_iff.mp ix, Is.int_iff.mp iy, d i j, rfl, .refl _, hd _ _ _ _⟩
    | _ => exact absurd rfl hg
  | _ => exact absurd rfl hg
theorem z4s : OpD X (binaryOp .FloorDiv) dDiv := od_I (d := fun i j => .int (i / j)) (fun _ _ _ _ => Is.int_iff.mpr rfl) (C := fun i j => 0 < j /\ j < 1073741824) z9a
theorem z1p : OpD X (binaryOp .Mod) dMod := od_I (d := fun i j => .int (i % j)) (fun _ _ _ _ => Is.int_iff.mpr rfl) (C := fun i j => 0 < j) y0v
theorem y0x : OpD X (binaryOp .Pow) dPow := od_I (d := fun i j => .int (i ^ j.toNat)) (fun _ _ _ _ => Is.int_iff.mpr rfl) (C := fun i j => 0 <= j /\ j <= 1000000 /\ i.natAbs < 18446744073709551616) y0t
theorem y2o : OpD X (compareOp .Lt) dLt := z9f (d := fun i j => .bl (decide (i < j))) (fun _ _ _ _ => Is.bl_iff.mpr rfl) y2k
theorem z9e : OpD X (compareOp .LtE) dLe := z9f (d := fun i j => .bl (decide (i <= j))) (fun _ _ _ _ => Is.bl_iff.mpr rfl) y2l
theorem y0y : OpD X (compareOp .Gt) dGt := z9f (d := fun i j => .bl (decide (j < i))) (fun _ _ _ _ => Is.bl_iff.mpr rfl) y2m
noncomputable def y2g (K : PySem.W.Frag) : R2 := fun x y H Q => ∃ a b xs ys, x = .ref a /\ y = .ref b /\ SqT K H a xs /\ SqT K H b ys /\ xs.length + ys.length <= sizeLine /\
  (xs = [] -> Q (.ref b) H) /\ (xs ≠ [] -> ys = [] -> Q (.ref a) H) /\ (xs ≠ [] -> ys ≠ [] -> ∀ p, H p = none -> Q (.ref p) (upd H p (.tup (xs ++ ys))))
theorem z9c : OpR X (binaryOp .Add) (y2g X.K) := by
  intro pins s σ H x y v u Q I rx ry h
  obtain ⟨a, b, xs, ys, rfl, rfl, ha, hb, hz, q0, q1, q2⟩ := h
  by_cases hx : xs = []
  · cases rx
    cases ry
    obtain ⟨its, r1, p1, _⟩ := I.tuple ha
    obtain ⟨its2, r2, p2, _⟩ := I.tuple hb
    have hi : its = [] := r1.nil_iff.mpr hx
    obtain ⟨⟨cls, dd, data, sl⟩, ho, hc, n, hd⟩ := id p1
    obtain ⟨⟨cls2, dd2, data2, sl2⟩, ho2, hc2, n2, hd2⟩ := id p2
    simp only at hc hd hc2 hd2
    subst hc hd hc2 hd2
    exact concat_meets ⟨_, ho, rfl⟩ ⟨_, ho2, rfl⟩ noFill_tuple_add seq_tuple_add PySem.F.slot_tuple_add PySem.F.entry_tuple_add (PySem.F.args_tuple_add_2 _ _)
      (tuple_addW0 a b its.toArray its2.toArray n n2 dd dd2 sl sl2 (by rw [hi]; rfl)) ⟨ho, ho2, ⟨.ref b, H, I, rfl, q0 hx⟩⟩
  · exact z9b pins s σ H _ _ v u Q I rx ry ⟨a, b, xs, ys, rfl, rfl, ha, hb, hx, hz, q1 hx, q2 hx⟩
theorem z3l : OpD X (binaryOp .Add) dAdd := by
  refine ⟨_, OpR.or (y0w (X := X.nox)) (z9c (X := X.nox)), fun H x y dx dy ix iy hg => ?_⟩
  cases dx with
  | int i =>
    cases dy with
    | int j => exact .inl ⟨i, j, Is.int_iff.mp ix, Is.int_iff.mp iy, .int (i + j), rfl, .refl _, Is.int_iff.mpr rfl⟩
    | _ => exact absurd rfl hg
  | tup ds =>
    cases dy with
    | tup es =>
      obtain ⟨hc, e⟩ := R.guard_ne (show R.guard (ds.length + es.length <= 1000) (R.ok (D.tup (ds ++ es))) ≠ R.no from hg)
      obtain ⟨a, xs, rfl, h1, h2⟩ := Is.tup_iff.mp ix
      obtain ⟨b, ys, rfl, h3, h4⟩ := Is.tup_iff.mp iy
      refine .inr ⟨a, b, xs, ys, rfl, rfl, h1, h3, by rw [<- h2.length, <- h4.length]; exact z2c hc, fun z => ?_, fun z z' => ?_, fun z z' p hp => ?_⟩
      · refine ⟨.tup (ds ++ es), e, .refl _, Is.tup_iff.mpr ⟨b, ys, rfl, h3, ?_⟩⟩
        have : ds = [] := List.length_eq_zero_iff.mp (by rw [h2.length, z]; rfl)
        rw [this]; exact h4
      · refine ⟨.tup (ds ++ es), e, .refl _, Is.tup_iff.mpr ⟨a, xs, rfl, h1, ?_⟩⟩
        have : es = [] := List.length_eq_zero_iff.mp (by rw [h4.length, z']; rfl)
        rw [this, List.append_nil]; exact h2
      · have S := z2b hp (.tup (xs ++ ys))
        exact ⟨.tup (ds ++ es), e, S, Is.tup_iff.mpr ⟨p, xs ++ ys, rfl, SqT.of z0p, (h2.append h4).same S⟩⟩
    | _ => exact absurd rfl hg
  | _ => exact absurd rfl hg
theorem z5h (l : Addr) (items : Array Value) (n : Nat) (dd : Option Addr) (sl : Array (Option Value)) (k : Int) (u : Tok) (h1 : (decide (k < -(2 ^ 63)) || decide (k ≥ 2 ^ 63)) = false) (hc : (items.isEmpty || k == 1) = true) :
    Meets (Builtin.«tuple.__mul__» ⟨[.ref l, .int k u], []⟩) (fun _ Q s => s.heap.get? l = some { cls := .type "tuple", dict := dd, data := .seq items n, slots := sl } /\ Q (.ok (.ret (Value.ref l))) s) :=
  .of_wp fun prog w A Q s h => by obtain ⟨hp, g, d, tk, os⟩ := s; obtain ⟨hl, h⟩ := h; have f1 := AutoSeq1.idx_int; wp_walk using wpAny_loadPart' hl; refine wpAny_ite_false (by rw [h1]; rfl) ?_; wp_walk using wpAny_loadPart' hl; exact ⟨_, rfl, h⟩
theorem z5j (l : Addr) (items : Array Value) (n : Nat) (dd : Option Addr) (sl : Array (Option Value)) (k : Int) (u : Tok) (h1 : (decide (k < -(2 ^ 63)) || decide (k ≥ 2 ^ 63)) = false) (hc : (items.isEmpty || k == 1) = false) (hc2 : (decide (k <= 0) || items.isEmpty) = true) :
    Meets (Builtin.«tuple.__mul__» ⟨[.ref l, .int k u], []⟩) (fun _ Q s => s.heap.get? l = some { cls := .type "tuple", dict := dd, data := .seq items n, slots := sl } /\ Q (.ok (.ret (Value.ref s.heap.objs.size))) { s with heap := s.heap.push { cls := .type "tuple", data := .seq #[] } }) :=
  .of_wp fun prog w A Q s h => by obtain ⟨hp, g, d, tk, os⟩ := s; obtain ⟨hl, h⟩ := h; have f1 := AutoSeq1.idx_int; wp_walk using wpAny_loadPart' hl; refine wpAny_ite_false (by rw [h1]; rfl) ?_; wp_walk using wpAny_loadPart' hl; exact ⟨_, rfl, h⟩
theorem z5i (l : Addr) (items : Array Value) (n : Nat) (dd : Option Addr) (sl : Array (Option Value)) (k : Int) (u : Tok) (h1 : (decide (k < -(2 ^ 63)) || decide (k ≥ 2 ^ 63)) = false) (hc : (items.isEmpty || k == 1) = false) (hc2 : (decide (k <= 0) || items.isEmpty) = false) (hc3 : ¬ ((items.size : Int) * k > (2 ^ 63 - 1) / 8)) (hc4 : Builtin.Tuple.tupleTooMany ((items.size : Int) * k) = false) (hc5 : ¬ ((List.replicate k.toNat items).foldl (fun x1 x2 => x1 ++ x2) #[]).size > sizeLine) :
    Meets (Builtin.«tuple.__mul__» ⟨[.ref l, .int k u], []⟩) (fun _ Q s => s.heap.get? l = some { cls := .type "tuple", dict := dd, data := .seq items n, slots := sl } /\ Q (.ok (.ret (Value.ref s.heap.objs.size))) { s with heap := s.heap.push { cls := .type "tuple", data := .seq ((List.replicate k.toNat items).foldl (· ++ ·) #[]) } }) :=
  .of_wp fun prog w A Q s h => by obtain ⟨hp, g, d, tk, os⟩ := s; obtain ⟨hl, h⟩ := h; have f1 := AutoSeq1.idx_int; wp_walk using wpAny_loadPart' hl; refine wpAny_ite_false (by rw [h1]; rfl) ?_; wp_walk using wpAny_loadPart' hl; refine wpAny_ite_false (decide_eq_false hc3) ?_; wp_walk using wpAny_loadPart' hl; exact ⟨_, rfl, h⟩
theorem z2a : fillsNumberSlot (.type "tuple") "mul" = pure false :=
  PySem.fillsNumberSlot_seq (id := "tuple.__mul__") (r := some (.builtin "tuple.__rmul__")) F.slot_tuple_mul.lookup (by decide +kernel) F.slot_tuple_rmul.lookup (by decide +kernel)
theorem z3g : seqRepeat? (.type "tuple") = pure (some (.builtin "tuple.__mul__")) := by
  unfold seqRepeat?
  rw [PySem.seqSlot_of (T := "tuple") (name := "__mul__") (id := "tuple.__mul__") F.slot_tuple_mul.lookup (by decide +kernel), PySem.seqSlot_of (T := "tuple") (name := "__rmul__") (id := "tuple.__rmul__") F.slot_tuple_rmul.lookup (by decide +kernel)]
  rfl
theorem z2r (a : Int) (t : Tok) (l : Addr) (items : Array Value) (n : Nat) (dd : Option Addr) (sl : Array (Option Value)) :
    Meets (Builtin.«int.__rmul__» ⟨[.int a t, .ref l], []⟩) (fun _ Q s => s.heap.get? l = some { cls := .type "tuple", dict := dd, data := .seq items n, slots := sl } /\ Q (.ok (.ret Value.notImplemented)) s) :=
  .of_wp fun prog w A Q s h => by obtain ⟨hp, g, d, tk, os⟩ := s; obtain ⟨hl, h⟩ := h; wp_walk; exact ⟨_, rfl, h⟩
noncomputable def y2e (K : PySem.W.Frag) : R2 := fun x y H Q => ∃ l k xs, x = .ref l /\ y = .int k /\ SqT K H l xs /\ 0 <= k /\ k < 1000000 /\ xs.length * k.toNat <= 1000 /\
  ((xs = [] ∨ k = 1) -> Q (.ref l) H) /\ (xs ≠ [] -> k ≠ 1 -> ∀ p, H p = none -> Q (.ref p) (upd H p (.tup (List.replicate k.toNat xs).flatten)))
theorem z8z : OpR X (binaryOp .Mult) (y2e X.K) := by
  intro pins s σ H x y v u Q I rx ry h
  obtain ⟨l, k, xs, rfl, rfl, hH, h1, h2, hz, q0, q1⟩ := h
  cases rx
  obtain ⟨t, rfl⟩ := ry
  obtain ⟨its, r, p1, hz2⟩ := I.tuple hH
  have hl : its.length = xs.length := r.length.symm
  obtain ⟨⟨cls, dd, data, sl⟩, ho, hc, n, hd⟩ := id p1
  simp only at hc hd
  subst hc hd
  have hb : (decide (k < -(2 ^ 63)) || decide (k ≥ 2 ^ 63)) = false := by
    rw [decide_eq_false (by omega), decide_eq_false (by omega)]; rfl
  refine wpAny_binaryOp_repeat_ref (T := "tuple") (U := "int") (by decide) ⟨_, ho, rfl⟩ (fun s' => typeIs_int s' k t) z2a F.fills_int_mul F.slot_int_rmul z3g F.slot_int_index.lookup
    (call_meets F.slot_int_rmul (typeIs_int s k t) F.entry_int_rmul (F.args_int_rmul_2 _ _) (z2r k t l its.toArray n dd sl) ⟨ho, rfl, ⟨_, ho, rfl⟩, ?_⟩)
  by_cases c1 : xs = [] ∨ k = 1
  · have hc1 : (its.toArray.isEmpty || k == 1) = true := by
      rcases c1 with c | c
      · have : its = [] := List.length_eq_zero_iff.mp (by rw [hl, c]; rfl)
        rw [this]; rfl
      · rw [c]; simp
    exact call_meets F.slot_tuple_mul ⟨_, ho, rfl⟩ F.entry_tuple_mul (F.args_tuple_mul_2 _ _) (z5h l its.toArray n dd sl k t hb hc1) ⟨ho, ⟨.ref l, H, I, rfl, q0 c1⟩⟩
  · have hx : xs ≠ [] := fun e => c1 (.inl e)
    have hk1 : k ≠ 1 := fun e => c1 (.inr e)
    have hne : its ≠ [] := fun e => hx (List.length_eq_zero_iff.mp (by rw [<- hl, e]; rfl))
    have he : its.toArray.isEmpty = false := by cases its with | nil => exact absurd rfl hne | cons a b => rfl
    have hc1 : (its.toArray.isEmpty || k == 1) = false := by rw [he]; simpa using hk1
    by_cases c2 : k <= 0
    · have hk0 : k = 0 := by omega
      refine call_meets F.slot_tuple_mul ⟨_, ho, rfl⟩ F.entry_tuple_mul (F.args_tuple_mul_2 _ _) (z5j l its.toArray n dd sl k t hb hc1 (by rw [decide_eq_true c2]; rfl)) ⟨ho, ?_⟩
      have e0 : (List.replicate k.toNat xs).flatten = [] := by rw [hk0]; rfl
      refine ⟨.ref s.heap.objs.size, _, I.laid (t' := s.toks) (o := .tup (List.replicate k.toNat xs).flatten) (fun b ob q => Heap.get?_push_of_some _ q) (Nat.le_refl _) ?_, rfl, q1 hx hk1 _ (I.hok.fresh (Nat.le_refl _))⟩
      rw [e0]
      exact ⟨by decide, [], .nil, ⟨_, Heap.get?_push_size _ rfl, rfl, _, rfl⟩⟩
    · have f0 : ∀ m : Nat, List.foldl (fun x1 x2 => x1 ++ x2) #[] (List.replicate m its.toArray) = (List.replicate m its).flatten.toArray := fun m => by
        have := z3u its m []
        rw [List.nil_append] at this
        exact this
      have hlr : (List.replicate k.toNat its).flatten.length <= 1000 := by rw [z6n, hl, Nat.mul_comm]; exact hz
      have hsz : (its.toArray.size : Int) * k <= 1000 := by
        rw [List.size_toArray, hl, show k = ((k.toNat : Nat) : Int) by omega]
        exact_mod_cast hz
      refine call_meets F.slot_tuple_mul ⟨_, ho, rfl⟩ F.entry_tuple_mul (F.args_tuple_mul_2 _ _) (z5i l its.toArray n dd sl k t hb hc1 (by rw [decide_eq_false c2, he]; rfl) (by omega) ?_ ?_) ⟨ho, ?_⟩
      · unfold Builtin.Tuple.tupleTooMany
        have : (1000 : Int) <= (sizeLine : Int) := by decide
        exact decide_eq_false (by omega)
      · rw [f0, List.size_toArray]
        have := z2c hlr
        omega
      · rw [f0]
        refine ⟨.ref s.heap.objs.size, _, I.laid (t' := s.toks) (o := .tup (List.replicate k.toNat xs).flatten) (fun b ob q => Heap.get?_push_of_some _ q) (Nat.le_refl _) ?_, rfl, q1 hx hk1 _ (I.hok.fresh (Nat.le_refl _))⟩
        exact ⟨by rw [z6n, Nat.mul_comm]; exact z2c hz, _, r.rep k.toNat, ⟨_, Heap.get?_push_size _ rfl, rfl, _, rfl⟩⟩
theorem IsAll.rep {K : PySem.W.Frag} {H : Hp} {ds : List D} {xs : List V} (h : IsAll K H ds xs) : ∀ n : Nat, IsAll K H (List.replicate n ds).flatten (List.replicate n xs).flatten
  | 0 => IsAll.nil
  | n + 1 => by rw [List.replicate_succ, List.flatten_cons, List.replicate_succ, List.flatten_cons]; exact h.append (IsAll.rep h n)
theorem z6e : OpD X (binaryOp .Mult) dMul := by
  refine ⟨_, OpR.or (y0u (X := X.nox)) (z8z (X := X.nox)), fun H x y dx dy ix iy hg => ?_⟩
  cases dx with
  | int i =>
    cases dy with
    | int j =>
      obtain ⟨hc, e⟩ := R.guard_ne (show R.guard (z1j i j) (R.ok (D.int (i * j))) ≠ R.no from hg)
      refine .inl ⟨i, j, Is.int_iff.mp ix, Is.int_iff.mp iy, ?_, .int (i * j), e, .refl _, Is.int_iff.mpr rfl⟩
      unfold z1j z3v at hc
      show (-(2 ^ 64) < i /\ i < 2 ^ 64) ∨ (-(2 ^ 64) < j /\ j < 2 ^ 64)
      omega
    | _ => exact absurd rfl hg
  | tup ds =>
    cases dy with
    | int j =>
      obtain ⟨⟨hc1, hc2⟩, e⟩ := R.guard_ne (show R.guard (0 <= j /\ j < 1000000 /\ ds.length * j.toNat <= 1000) (R.ok (D.tup (List.replicate j.toNat ds).flatten)) ≠ R.no from hg)
      obtain ⟨a, xs, rfl, h1, h2⟩ := Is.tup_iff.mp ix
      have hxl := h2.length
      refine .inr ⟨a, j, xs, rfl, Is.int_iff.mp iy, h1, hc1, hc2.1, by rw [<- hxl]; exact hc2.2, fun c => ?_, fun z z' p hp => ?_⟩
      · refine ⟨_, e, .refl _, Is.tup_iff.mpr ⟨a, xs, rfl, h1, ?_⟩⟩
        rcases c with c | c
        · have : ds = [] := List.length_eq_zero_iff.mp (by rw [hxl, c]; rfl)
          rw [this, c]
          have e2 : ∀ m : Nat, (List.replicate m ([] : List D)).flatten = [] := fun m => by simp
          rw [e2]; exact IsAll.nil
        · subst c
          show IsAll X.K H (List.replicate 1 ds).flatten xs
          rw [show (List.replicate 1 ds).flatten = ds by simp]; exact h2
      · have S := z2b hp (.tup (List.replicate j.toNat xs).flatten)
        exact ⟨_, e, S, Is.tup_iff.mpr ⟨p, _, rfl, SqT.of z0p, (h2.rep _).same S⟩⟩
    | _ => exact absurd rfl hg
  | _ => exact absurd rfl hg
mutual
noncomputable def D.py : D -> PyData
  | .non => .none
  | .bl b => .bool b
  | .int i => .int i
  | .str x => .str x
  | .tup ds => .tuple (D.pys ds)
  | .lst ds => .list (D.pys ds)
  | .dct => .dict []
  | .exc _ => .dict []
noncomputable def D.pys : List D -> List PyData
  | [] => []
  | d :: ds => d.py :: D.pys ds
end
mutual
theorem z3q : ∀ (n : Nat) (d : D), D.lay n d = true -> d.py.canLay0 = true /\ d.py.depth <= n
  | n, .non, _ => by simp [D.py, PyData.canLay0, PyData.depth]
  | n, .bl _, _ => by simp [D.py, PyData.canLay0, PyData.depth]
  | n, .int _, _ => by simp [D.py, PyData.canLay0, PyData.depth]
  | n, .str x, h => by
    have h' : PyData.strOk x = true := by have := h; rw [z9l] at this; exact this
    simp [D.py, PyData.canLay0, PyData.depth, h']
  | 0, .tup ds, h => by simp [D.lay] at h
  | 0, .lst ds, h => by simp [D.lay] at h
  | n + 1, .tup ds, h => by
    have q := lays_py n ds (by simpa [D.lay] using h)
    constructor
    · simpa [D.py, PyData.canLay0] using q.1
    · have := q.2
      simp only [D.py, PyData.depth]; omega
  | n + 1, .lst ds, h => by
    have q := lays_py n ds (by simpa [D.lay] using h)
    constructor
    · simpa [D.py, PyData.canLay0] using q.1
    · have := q.2
      simp only [D.py, PyData.depth]; omega
  | n, .dct, h => by cases n <;> simp [D.lay] at h
  | n, .exc _, h => by cases n <;> simp [D.lay] at h
theorem lays_py : ∀ (n : Nat) (ds : List D), D.lays n ds = true -> PyData.canLayAll0 (D.pys ds) = true /\ PyData.depthAll (D.pys ds) <= n
  | n, [], _ => by simp [D.pys, PyData.canLayAll0, PyData.depthAll]
  | n, d :: ds, h => by
    have h' : D.lay n d = true /\ D.lays n ds = true := by simpa [D.lays] using h
    have q1 := z3q n d h'.1
    have q2 := lays_py n ds h'.2
    constructor
    · simp [D.pys, PyData.canLayAll0, q1.1, q2.1]
    · have := q1.2; have := q2.2
      simp only [D.pys, PyData.depthAll]; omega
end
mutual
theorem z1n {pins : List (Addr × Obj)} {σ : St} {H : Hp} {s : Shared} (I : Inv X pins σ H s) : ∀ (n : Nat) (d : D) (v : V) (u : Value), D.lay n d = true -> Is X.K H d v -> RelV v u -> ∃ as, Reads s.heap u d.py as
  | _, .non, v, u, _, i, r => by
    rw [Is.non_iff.mp i] at r; cases (show u = Value.none from r)
    exact ⟨_, .none⟩
  | _, .bl b, v, u, _, i, r => by
    rw [Is.bl_iff.mp i] at r; cases (show u = Value.bool b from r)
    exact ⟨_, .bool b⟩
  | _, .int k, v, u, _, i, r => by
    rw [Is.int_iff.mp i] at r
    obtain ⟨t, rfl⟩ := (show ∃ t, u = Value.int k t from r)
    exact ⟨_, .int k t⟩
  | _, .str x, v, u, _, i, r => by
    rw [Is.str_iff.mp i] at r
    obtain ⟨t, rfl⟩ := (show ∃ t, u = Value.str x t from r)
    exact ⟨_, .str x t⟩
  | 0, .tup ds, v, u, h, _, _ => by simp [D.lay] at h
  | 0, .lst ds, v, u, h, _, _ => by simp [D.lay] at h
  | n + 1, .tup ds, v, u, h, i, r => by
    obtain ⟨a, xs, rfl, h1, h2⟩ := Is.tup_iff.mp i
    cases (show u = Value.ref a from r)
    obtain ⟨its, rv, ⟨o, ho, hc, m, hd⟩, _⟩ := I.tuple h1
    obtain ⟨as, ra⟩ := readsAll_of I n ds xs its (by simpa [D.lay] using h) h2 rv
    exact ⟨as, by unfold D.py; exact .tuple ho hc hd (by simpa using ra)⟩
  | n + 1, .lst ds, v, u, h, i, r => by
    obtain ⟨a, xs, rfl, h1, h2⟩ := Is.lst_iff.mp i
    cases (show u = Value.ref a from r)
    obtain ⟨its, rv, ⟨o, m, ho, hc, _, hd⟩, _⟩ := I.list h1
    obtain ⟨as, ra⟩ := readsAll_of I n ds xs its (by simpa [D.lay] using h) h2 rv
    exact ⟨a :: as, by unfold D.py; exact .list ho hc hd (by simpa using ra)⟩
  | n, .dct, v, u, h, _, _ => by cases n <;> simp [D.lay] at h
  | n, .exc _, v, u, h, _, _ => by cases n <;> simp [D.lay] at h
theorem readsAll_of {pins : List (Addr × Obj)} {σ : St} {H : Hp} {s : Shared} (I : Inv X pins σ H s) : ∀ (n : Nat) (ds : List D) (xs : List V) (us : List Value), D.lays n ds = true -> IsAll X.K H ds xs -> Vals xs us -> ∃ as, ReadsAll s.heap us (D.pys ds) as
  | n, [], xs, us, _, i, r => by
    rw [IsAll.nil_iff.mp i] at r
    cases r
    exact ⟨_, by unfold D.pys; exact .nil⟩
  | n, d :: ds, xs, us, h, i, r => by
    obtain ⟨x, r', rfl, h1, h2⟩ := IsAll.cons_iff.mp i
    have h' : D.lay n d = true /\ D.lays n ds = true := by simpa [D.lays] using h
    cases r with
    | cons q1 q2 =>
      obtain ⟨as, ra⟩ := z1n I n d x _ h'.1 h1 q1
      obtain ⟨bs, rb⟩ := readsAll_of I n ds r' _ h'.2 h2 q2
      exact ⟨as ++ bs, by unfold D.pys; exact .cons ra rb⟩
end
mutual
theorem z6y : ∀ x y : D, eqD x y = PyData.eqv x.py y.py
  | .non, y => by cases y <;> simp [eqD, D.py, PyData.eqv]
  | .bl _, y => by cases y <;> simp [eqD, D.py, PyData.eqv]
  | .int _, y => by cases y <;> simp [eqD, D.py, PyData.eqv]
  | .str _, y => by cases y <;> simp [eqD, D.py, PyData.eqv]
  | .dct, y => by cases y <;> simp [eqD, D.py, PyData.eqv]
  | .exc _, y => by cases y <;> simp [eqD, D.py, PyData.eqv]
  | .tup xs, y => by
    cases y with
    | tup ys => rw [eqD, D.py, D.py, PyData.eqv, eqDs_py xs ys]
    | _ => simp [eqD, D.py, PyData.eqv]
  | .lst xs, y => by
    cases y with
    | lst ys => rw [eqD, D.py, D.py, PyData.eqv, eqDs_py xs ys]
    | _ => simp [eqD, D.py, PyData.eqv]
theorem eqDs_py : ∀ xs ys : List D, eqDs xs ys = PyData.eqvAll (D.pys xs) (D.pys ys)
  | [], [] => by simp [eqDs, D.pys, PyData.eqvAll]
  | [], _ :: _ => by simp [eqDs, D.pys, PyData.eqvAll]
  | _ :: _, [] => by simp [eqDs, D.pys, PyData.eqvAll]
  | x :: xs, y :: ys => by rw [eqDs, D.pys, D.pys, PyData.eqvAll, z6y x y, eqDs_py xs ys]
end
theorem z5m (hu : X.A.units + 64 < cLine) : OpD X (compareOp .Eq) dEq := by
  refine ⟨fun x y H Q => ∃ dx dy, Is X.K H dx x /\ Is X.K H dy y /\ D.lay 40 dx = true /\ D.lay 40 dy = true /\ Q (.bl (eqD dx dy)) H, ?_, fun H x y dx dy ix iy hg => ?_⟩
  · intro pins s σ H x y v u Q I rx ry h
    obtain ⟨dx, dy, ix, iy, l1, l2, q⟩ := h
    obtain ⟨as, ra⟩ := z1n I 40 dx x v l1 ix rx
    obtain ⟨bs, rb⟩ := z1n I 40 dy y u l2 iy ry
    have p1 := z3q 40 dx l1
    have p2 := z3q 40 dy l2
    have hu' : X.A.units + 64 < cLine := hu
    refine PySem.SeqAt.compareEq_reads ra rb p1.1 p2.1 (show X.A.units + min dx.py.depth dy.py.depth < cLine by omega) ⟨.bl (eqD dx dy), H, I, by rw [z6y]; rfl, q⟩
  · obtain ⟨⟨l1, l2⟩, e⟩ := R.guard_ne hg
    exact ⟨dx, dy, ix, iy, l1, l2, .bl (eqD dx dy), e, .refl _, Is.bl_iff.mpr rfl⟩
theorem y2n (hu : X.A.units + 64 < cLine) : OpD X (compareOp .NotEq) dNe := by
  refine ⟨fun x y H Q => ∃ dx dy, Is X.K H dx x /\ Is X.K H dy y /\ D.lay 40 dx = true /\ D.lay 40 dy = true /\ Q (.bl (!eqD dx dy)) H, ?_, fun H x y dx dy ix iy hg => ?_⟩
  · intro pins s σ H x y v u Q I rx ry h
    obtain ⟨dx, dy, ix, iy, l1, l2, q⟩ := h
    obtain ⟨as, ra⟩ := z1n I 40 dx x v l1 ix rx
    obtain ⟨bs, rb⟩ := z1n I 40 dy y u l2 iy ry
    have p1 := z3q 40 dx l1
    have p2 := z3q 40 dy l2
    have hu' : X.A.units + 64 < cLine := hu
    refine PySem.SeqAt.compareNe_reads ra rb p1.1 p2.1 (show X.A.units + min dx.py.depth dy.py.depth < cLine by omega) ⟨.bl (!eqD dx dy), H, I, by rw [z6y]; rfl, q⟩
  · obtain ⟨⟨l1, l2⟩, e⟩ := R.guard_ne hg
    exact ⟨dx, dy, ix, iy, l1, l2, .bl (!eqD dx dy), e, .refl _, Is.bl_iff.mpr rfl⟩
theorem IsAll.atI {K : PySem.W.Frag} {H : Hp} {ds : List D} {xs : List V} {i : Int} {d : D} (h : IsAll K H ds xs) (e : atI ds i = some d) : ∃ x, L2.atI xs i = some x /\ Is K H d x := by
  unfold L2.atI
  unfold L3.atI at e
  rw [<- h.length]
  show ∃ x, ((L3.ixN ds.length i).bind fun j => xs[j]?) = some x /\ Is K H d x
  cases q : L3.ixN ds.length i with
  | none => rw [q] at e; cases e
  | some j =>
    rw [q] at e
    exact h.get (by simpa using e)
theorem y0r (ha : PD X a ga) (hb : PD X b gb) (hs : y0f b := by intro _ _; rfl) : PD X (.Subscript a b pos) (gBin dIx ga gb) := by
  refine ⟨fun pins s σ H F Γ I fo rl hg => ?_⟩
  refine Subscript_ (wpAny_mono (ha.run pins s σ H F Γ I fo rl (R.left hg)) (fun v s1 ⟨dx, x, H1, e1, I1, r1, S1, i1⟩ => ?_) fun _ _ x => x.bind _)
  have hg1 := R.next hg e1
  refine wpAny_mono (hb.run pins s1 σ H1 F Γ I1 (fo.same S1) (rl.same S1) (R.left hg1)) (fun u s2 ⟨dy, y, H2, e2, I2, r2, S2, i2⟩ => ?_) fun _ _ x => z0g.later e1 S1 (x.bind _)
  have hg2 := R.next hg1 e2
  have i1' := i1.same S2
  have fin : ∀ (d : D) (z : V), dIx dx dy = .ok d -> Is X.K H2 d z -> ∀ (w' : Value) (s' : Shared), EP X.nox pins σ (fun z' H' => z' = z /\ H' = H2) w' s' -> Post X pins σ H (gBin dIx ga gb Γ) w' s' := fun d z ed iz w' s' ⟨z', H', I', rz, ez, eH⟩ => by
    subst ez eH
    exact Post.bind e1 S1 (Post.bind e2 S2 ⟨d, z', H', ed, I'.unwish, rz, .refl _, iz⟩)
  cases dx with
  | tup ds =>
    cases dy with
    | int i =>
      obtain ⟨p, xs, rfl, h1, h2⟩ := Is.tup_iff.mp i1'
      cases q : atI ds i with
      | none => exact absurd (show dIx (.tup ds) (.int i) = .no by simp only [dIx, q]) hg2
      | some d =>
        obtain ⟨z, ez, iz⟩ := h2.atI q
        exact wpAny_mono (y1s (X := X.nox) a b pins s2 σ H2 _ y v u _ (I2.wish _) r1 r2 ⟨p, xs, i, z, rfl, Is.int_iff.mp i2, h1, ez, rfl, rfl⟩ (hs _ _)) (fun w' s' h => fin d z (by show dIx (.tup ds) (.int i) = .ok d; simp only [dIx, q]) iz w' s' h) fun _ _ z => False.elim z
    | _ => exact absurd rfl hg2
  | lst ds =>
    cases dy with
    | int i =>
      obtain ⟨p, xs, rfl, h1, h2⟩ := Is.lst_iff.mp i1'
      cases q : atI ds i with
      | none => exact absurd (show dIx (.lst ds) (.int i) = .no by simp only [dIx, q]) hg2
      | some d =>
        obtain ⟨z, ez, iz⟩ := h2.atI q
        exact wpAny_mono (z9q (X := X.nox) a b pins s2 σ H2 _ y v u _ (I2.wish _) r1 r2 ⟨p, xs, i, z, rfl, Is.int_iff.mp i2, h1, ez, rfl, rfl⟩ (hs _ _)) (fun w' s' h => fin d z (by show dIx (.lst ds) (.int i) = .ok d; simp only [dIx, q]) iz w' s' h) fun _ _ z => False.elim z
    | _ => exact absurd rfl hg2
  | _ => exact absurd rfl hg2
variable {x : Str} {p : Pos} {es : List Expr} {gs : G -> R (List D)} {bid T : String}
noncomputable def z7u (X : Cx) (f : Value) (g : List D -> R D) : Prop := ∃ r : List V -> Hp -> VK -> Prop, z5p X.nox f r /\ ∀ H xs ds, IsAll X.K H ds xs -> g ds ≠ .no -> r xs H fun z H' => ∃ d, g ds = .ok d /\ Same H H' /\ Is X.K H' d z
theorem z7u.run {f : Value} {g : List D -> R D} (h : z7u X f g) {pins : List (Addr × Obj)} {s : Shared} {σ : St} {H : Hp} {xs : List V} {us : List Value} {ds : List D} (I : Inv X pins σ H s) (r : Vals xs us) (i : IsAll X.K H ds xs) (hg : g ds ≠ .no) {E : Value -> Shared -> Prop} :
    wpAny (model X.prog X.w) X.A (call f us) (Post X pins σ H (g ds)) E s := by
  obtain ⟨r', ho, hr⟩ := h
  exact wpAny_mono (ho pins s σ H xs us _ (I.wish _) r (hr H xs ds i hg)) (fun _ _ ⟨z, H', I', rz, d, e, S, i⟩ => ⟨d, z, H', e, I'.unwish, rz, S, i⟩) fun _ _ z => False.elim z
theorem z7h {g : List D -> R D} (hc : z7u X (.builtin bid) g) (hm : X.mg x = none) (hv : bootBuiltins x = some (.builtin bid)) (ha : PAD X (e :: es) gs) (hg : Gl X x := by rfl) (hn : x ≠ "__name__" := by decide) (hdb : (x == ("__debug__" : Str)) = false := by decide)
    (he : starEach (e :: es) X.env = (false, eval e X.env) :: starEach es X.env := by rfl) (hpl : (backTo pos (starEach es X.env)).any (·.1) = false := by rfl) : PD X (.Call (.Name x p) (e :: es) [] pos) (z1s g gs) := by
  refine ⟨fun pins s σ H F Γ I fo rl hgg => ?_⟩
  refine wpAny_Call_Name_kw (z3p I hg hm hv ?_ hn hdb)
  refine PyProof.Rows.callWith_builtin1 (wpAny_mono (ha.run pos pins s σ H F Γ I fo rl (R.left hgg)) (fun us s1 ⟨ds, vs, H1, e1, I1, r1, S1, i1⟩ => ?_) fun _ _ x => x.bind _) he hpl
  exact thn (hc.run I1 r1 i1 (R.next hgg e1)) fun _ _ q => Post.bind e1 S1 q
theorem z8f {K : PySem.W.Frag} {H : Hp} {d : D} {xs : List V} (h : IsAll K H [d] xs) : ∃ v, xs = [v] /\ Is K H d v := by
  obtain ⟨x, r, rfl, h1, h2⟩ := IsAll.cons_iff.mp h
  rw [IsAll.nil_iff.mp h2]
  exact ⟨x, rfl, h1⟩
theorem y1z : z7u X (.builtin "len") dLen := by
  refine ⟨_, z3y (X := X.nox), fun H xs ds i hg => ?_⟩
  unfold dLen at hg
  split at hg
  · rename_i ys
    obtain ⟨v, rfl, h⟩ := z8f i
    obtain ⟨a, zs, rfl, h1, h2⟩ := Is.tup_iff.mp h
    exact ⟨a, zs, rfl, .inr h1, .int ys.length, rfl, .refl _, Is.int_iff.mpr (by rw [h2.length])⟩
  · rename_i ys
    obtain ⟨v, rfl, h⟩ := z8f i
    obtain ⟨a, zs, rfl, h1, h2⟩ := Is.lst_iff.mp h
    exact ⟨a, zs, rfl, .inl h1, .int ys.length, rfl, .refl _, Is.int_iff.mpr (by rw [h2.length])⟩
  · exact absurd rfl hg
end
noncomputable def CXE (P : Program) (w : World) : CXT := fun outer H s E x s' => ∃ (e C T : Addr) (oe oT : Obj) (vs ts : Array Value) (H' : Hp), x = .ref e /\ s'.os = s.os /\ AllBare s'.gens /\ Un (frs outer) [] H H' s.heap s'.heap /\ HOk P w H' s'.heap /\
  H' e = none /\ s.heap.get? e = none /\ s'.heap.get? e = some oe /\ oe.cls = .ref C /\ oe.data = .fields vs /\ (∃ a0, vs[0]? = some a0) /\ vs[1]? = some (.ref T) /\ H' T = none /\ s.heap.get? T = none /\ T ≠ e /\ s'.heap.get? T = some oT /\ oT.data = .fields ts /\ ts[3]? = some .none /\ E (.ref C) none H'
noncomputable def spD (K : PySem.W.Frag) (mg : Str -> Option Value) (φ : List D -> R D) : Sp := fun vs H Q E => ∃ ds, IsAll K H ds vs /\ φ ds ≠ .no /\ (∀ d v H', φ ds = .ok d -> Same H H' -> Is K H' d v -> Q v H') /\ (∀ c C H', φ ds = .er c -> mg c.nm = some (.ref C) -> Same H H' -> E (.ref C) none H')
noncomputable def spF (K : PySem.W.Frag) (mg : Str -> Option Value) (φ : List D -> R (List D)) : Sp := fun vs H Q E => ∃ ds, IsAll K H ds vs /\ φ ds ≠ .no /\ (∀ es a xs H', φ ds = .ok es -> Same H H' -> H a = none -> H' a = some (.lst xs) -> IsAll K H' es xs -> Q (.ref a) H') /\ (∀ c C H', φ ds = .er c -> mg c.nm = some (.ref C) -> Same H H' -> E (.ref C) none H')
structure FnD (P : Program) (w : World) (K : PySem.W.Frag) (mg : Str -> Option Value) (base : Heap) (k : Nat) (f : Addr) (fd : FuncData) (ps : List Str) (φ : List D -> R D) : Prop where
  ok : FnOk P w K mg base (CXE P w) k f fd ps (spD K mg φ)
  binds : z1l K fd ps []
  kp : PySem.W.keepIn K (.ref f) = true
structure FnF (P : Program) (w : World) (K : PySem.W.Frag) (mg : Str -> Option Value) (base : Heap) (k : Nat) (f : Addr) (fd : FuncData) (ps : List Str) (φ : List D -> R (List D)) : Prop where
  ok : FnOk P w K mg base (CXE P w) k f fd ps (spF K mg φ)
  binds : z1l K fd ps []
  kp : PySem.W.keepIn K (.ref f) = true
theorem FnD.mono {P : Program} {w : World} {K : PySem.W.Frag} {mg : Str -> Option Value} {base : Heap} {j k : Nat} {f : Addr} {fd : FuncData} {ps : List Str} {φ : List D -> R D} (F : FnD P w K mg base j f fd ps φ) (h : j <= k) : FnD P w K mg base k f fd ps φ := ⟨F.ok.mono h, F.binds, F.kp⟩
section
variable {X : Cx} {e a b c : Expr} {g ga gb gc : G -> R D} {pos p : Pos} {x : Str} {es : List Expr} {gs : G -> R (List D)}
theorem _root_.L2.Inv.gone {pins : List (Addr × Obj)} {σ : St} {H : Hp} {s : Shared} {q : Addr} (I : Inv X pins σ H s) (hex : X.ex = []) (hq : s.heap.get? q = none) : X.s₀.heap.get? q = none /\ q ≠ X.env.locals /\ (∀ y k, X.env.cells.lookup y = some k -> k ≠ q) /\ (∀ p ∈ X.pn ++ pins, p.1 ≠ q) := by
  refine ⟨?_, fun z => ?_, fun y k ek z => ?_, fun p hp z => ?_⟩
  · cases e0 : X.s₀.heap.get? q with
    | none => rfl
    | some o =>
      obtain ⟨o', e1⟩ := I.base.there q o e0 (by rw [hex]; simp)
      rw [hq] at e1; cases e1
  · obtain ⟨m, ⟨o, _, _, ho, _⟩, _⟩ := I.loc
    rw [<- z, hq] at ho; cases ho
  · obtain ⟨v, o, ho, _⟩ := I.cell y k ek
    rw [z, hq] at ho; cases ho
  · have ho := (I.pin p hp).1
    rw [z, hq] at ho; cases ho
theorem z1x {pins : List (Addr × Obj)} {σ : St} {H : Hp} {s s' : Shared} {u : Value} {r : R D} {E : XK} (hex : X.ex = [] ∨ ∀ C H', ¬ E (.ref C) none H') (I : Inv X pins σ H s) (h : CXE X.prog X.w X.stack H s E u s')
    (hE : ∀ C H', E (.ref C) none H' -> ∃ c, r = .er c /\ X.mg c.nm = some (.ref C) /\ Same H H') : z0g X pins σ H r u s' := by
  obtain ⟨e, C, T, oe, oT, vs, ts, H', rfl, os, bare, un, hok, he0, he1, he2, he3, he4, he5, hv, hT0, hT1, hT2, hT3, hT4, hT5, hE'⟩ := h
  have hex : X.ex = [] := hex.resolve_right fun z => z C H' hE'
  obtain ⟨c, er, hm, S⟩ := hE C H' hE'
  obtain ⟨hh, gg, dd, tt, os'⟩ := s'
  obtain rfl : os' = s.os := os
  have I' : Inv X pins σ H' { s with heap := hh, gens := gg, drawn := dd, toks := tt } := I.call (h' := hh) (g' := gg) (d' := dd) (t' := tt) (ch := []) un hok bare (fun b z => absurd z (by simp))
  have fr : ∀ q : Addr, s.heap.get? q = none -> X.s₀.heap.get? q = none /\ q ≠ X.env.locals /\ (∀ y k, X.env.cells.lookup y = some k -> k ≠ q) /\ (∀ p ∈ X.pn ++ pins, p.1 ≠ q) := fun q hq => I.gone hex hq
  obtain ⟨f1, f2, f3, f4⟩ := fr e he1
  obtain ⟨g1, g2, g3, g4⟩ := fr T hT1
  exact ⟨c, H', er, S, I', e, C, oe, vs, rfl, hm, he0, f1, f2, f3, f4, he2, he3, he4, he5, .inr ⟨T, oT, ts, hv, hT0, g1, g2, g3, g4, hT2, hT3, hT4, .inl hT5⟩⟩
theorem runD {k : Nat} {f : Addr} {fd : FuncData} {ps : List Str} {φ : List D -> R D} (Fn : FnD X.prog X.w X.K X.mg X.base k f fd ps φ) (hr : Room k X.A) {pins : List (Addr × Obj)} {σ : St} {H : Hp} {s : Shared} {us : List Value} {vs : List V} {ds : List D}
    (I : Inv X pins σ H s) (r : Vals vs us) (i : IsAll X.K H ds vs) (hg : φ ds ≠ .no) (hx : X.ex = [] ∨ ∀ c, φ ds ≠ .er c) : wpAny (model X.prog X.w) X.A (call (.ref f) us) (Post X pins σ H (φ ds)) (z0g X pins σ H (φ ds)) s := by
  have hsp : spD X.K X.mg φ vs H (fun v H' => ∃ d, φ ds = .ok d /\ Same H H' /\ Is X.K H' d v) (fun C' _ H' => ∃ c C, C' = .ref C /\ φ ds = .er c /\ X.mg c.nm = some (.ref C) /\ Same H H') :=
    ⟨ds, i, hg, fun d v H' e S iv => ⟨d, e, S, iv⟩, fun c C H' e hm S => ⟨c, C, rfl, e, hm, S⟩⟩
  have hl : us.length = ps.length := by rw [<- r.length]; exact Fn.ok.len _ _ _ _ hsp
  have hb := Fn.binds s us I.kIn (by rw [List.append_nil]; exact hl)
  rw [List.append_nil] at hb
  refine wpAny_call (codeAny_mono (Fn.ok.run X.A X.stack s H ⟨us, []⟩ us vs _ _ hr I.env0 hb r hsp) fun r' s' hq => ?_)
  cases r' with
  | error u =>
    refine z1x (E := fun C' _ H' => ∃ c C, C' = .ref C /\ φ ds = .er c /\ X.mg c.nm = some (.ref C) /\ Same H H') (hx.imp_right fun z C H' ⟨c, _, _, q, _⟩ => z c q) I hq fun C H' hE => ?_
    obtain ⟨c, C', e, h1, h2, h3⟩ := hE
    cases e
    exact ⟨c, h1, h2, h3⟩
  | ok fl =>
    cases fl with
    | ret u =>
      obtain ⟨v, H', I', rv, d, e, S, iv⟩ := I.after hq
      exact ⟨d, v, H', e, I', rv, S, iv⟩
    | next => exact False.elim hq
    | brk => exact False.elim hq
    | cont => exact False.elim hq
theorem z1i {k : Nat} {f : Addr} {fd : FuncData} {ps : List Str} {φ : List D -> R D} (Fn : FnD X.prog X.w X.K X.mg X.base k f fd ps φ) (hr : Room k X.A) (hm : X.mg x = some (.ref f)) (ha : PAD X (e :: es) gs) (hex : X.ex = [] := by rfl) (hg : Gl X x := by rfl) (hdb : (x == ("__debug__" : Str)) = false := by decide)
    (he : starEach (e :: es) X.env = (false, eval e X.env) :: starEach es X.env := by rfl) (hpl : (backTo pos (starEach es X.env)).any (·.1) = false := by rfl) : PD X (.Call (.Name x p) (e :: es) [] pos) (z1s φ gs) := by
  refine ⟨fun pins s σ H F Γ I fo rl hgg => ?_⟩
  refine wpAny_Call_Name_kw (z6p I hg hm ?_ hdb)
  refine PySem.W.callWith_K (h₀ := X.base) I.ok.mod.kin Fn.kp (wpAny_mono (ha.run pos pins s σ H F Γ I fo rl (R.left hgg)) (fun us s1 ⟨ds, vs, H1, e1, I1, r1, S1, i1⟩ => ⟨I1.kIn, ?_⟩) fun _ _ x => x.bind _) he hpl
  exact wpAny_mono (runD Fn hr I1 r1 i1 (R.next hgg e1) (.inl hex)) (fun _ _ q => Post.bind e1 S1 q) fun _ _ q => z0g.later e1 S1 q
theorem FnD.noEr {P : Program} {w : World} {K : PySem.W.Frag} {mg : Str -> Option Value} {base : Heap} {k : Nat} {f : Addr} {fd : FuncData} {ps : List Str} {φ : List D -> R D} (F : FnD P w K mg base k f fd ps φ) : FnD P w K mg base k f fd ps (L3.noEr φ) := by
  refine ⟨F.ok.imp fun vs H Q E h => ?_, F.binds, F.kp⟩
  obtain ⟨ds, i, hne, hok, her⟩ := h
  obtain ⟨d, e1, e2⟩ := z9j hne
  exact ⟨ds, i, (by rw [e1]; exact fun z => nomatch z), fun d' v H' e S iv => hok d' v H' (e2.trans (e1.symm.trans e)) S iv, fun c C H' e => by rw [e1] at e; cases e⟩
theorem runF {k : Nat} {f : Addr} {fd : FuncData} {ps : List Str} {φ : List D -> R (List D)} (Fn : FnF X.prog X.w X.K X.mg X.base k f fd ps φ) (hr : Room k X.A) {pins : List (Addr × Obj)} {σ : St} {H : Hp} {s : Shared} {us : List Value} {vs : List V} {ds : List D}
    (I : Inv X pins σ H s) (r : Vals vs us) (i : IsAll X.K H ds vs) (hg : φ ds ≠ .no) (hx : X.ex = [] ∨ ∀ c, φ ds ≠ .er c) : wpAny (model X.prog X.w) X.A (call (.ref f) us) (fun u s' => ∃ es a xs H', φ ds = .ok es /\ Inv X pins σ H' s' /\ u = .ref a /\ Same H H' /\ H a = none /\ H' a = some (.lst xs) /\ IsAll X.K H' es xs) (z0g X pins σ H (φ ds)) s := by
  have hsp : spF X.K X.mg φ vs H (fun v H' => ∃ es a xs, v = .ref a /\ φ ds = .ok es /\ Same H H' /\ H a = none /\ H' a = some (.lst xs) /\ IsAll X.K H' es xs) (fun C' _ H' => ∃ c C, C' = .ref C /\ φ ds = .er c /\ X.mg c.nm = some (.ref C) /\ Same H H') :=
    ⟨ds, i, hg, fun es a xs H' e S h1 h2 h3 => ⟨es, a, xs, rfl, e, S, h1, h2, h3⟩, fun c C H' e hm S => ⟨c, C, rfl, e, hm, S⟩⟩
  have hl : us.length = ps.length := by rw [<- r.length]; exact Fn.ok.len _ _ _ _ hsp
  have hb := Fn.binds s us I.kIn (by rw [List.append_nil]; exact hl)
  rw [List.append_nil] at hb
  refine wpAny_call (codeAny_mono (Fn.ok.run X.A X.stack s H ⟨us, []⟩ us vs _ _ hr I.env0 hb r hsp) fun r' s' hq => ?_)
  cases r' with
  | error u =>
    obtain ⟨c, H', e1, S, fl⟩ := z1x (r := φ ds >>= fun _ => .ok D.non) (E := fun C' _ H' => ∃ c C, C' = .ref C /\ φ ds = .er c /\ X.mg c.nm = some (.ref C) /\ Same H H') (hx.imp_right fun z C H' ⟨c, _, _, q, _⟩ => z c q) I hq fun C H' hE => by
      obtain ⟨c, C', e, h1, h2, h3⟩ := hE
      cases e
      exact ⟨c, R.stop h1 _, h2, h3⟩
    refine ⟨c, H', ?_, S, fl⟩
    cases q : φ ds with
    | no => exact absurd q hg
    | ok _ => rw [q] at e1; cases e1
    | er c' => rw [q] at e1; cases e1; rfl
  | ok fl =>
    cases fl with
    | ret u =>
      obtain ⟨v, H', I', rv, es, a, xs, rfl, e, S, h1, h2, h3⟩ := I.after hq
      exact ⟨es, a, xs, H', e, I', rv, S, h1, h2, h3⟩
    | next => exact False.elim hq
    | brk => exact False.elim hq
    | cont => exact False.elim hq
theorem z8x {k : Nat} {f : Addr} {fd : FuncData} {ps : List Str} {φ : List D -> R (List D)} (Fn : FnF X.prog X.w X.K X.mg X.base k f fd ps φ) (hr : Room k X.A) (hm : X.mg x = some (.ref f)) (ha : PAD X (e :: es) gs) (hex : X.ex = [] := by rfl) (hg : Gl X x := by rfl) (hdb : (x == ("__debug__" : Str)) = false := by decide)
    (he : starEach (e :: es) X.env = (false, eval e X.env) :: starEach es X.env := by rfl) (hpl : (backTo pos (starEach es X.env)).any (·.1) = false := by rfl) : PF X (.Call (.Name x p) (e :: es) [] pos) (z5b φ gs) := by
  refine ⟨fun pins s σ H F Γ I fo rl hgg => ?_⟩
  refine wpAny_Call_Name_kw (z6p I hg hm ?_ hdb)
  refine PySem.W.callWith_K (h₀ := X.base) I.ok.mod.kin Fn.kp (wpAny_mono (ha.run pos pins s σ H F Γ I fo rl (R.left hgg)) (fun us s1 ⟨ds, vs, H1, e1, I1, r1, S1, i1⟩ => ⟨I1.kIn, ?_⟩) fun _ _ x => x.bind _) he hpl
  have hg1 := R.next hgg e1
  refine wpAny_mono (runF Fn hr I1 r1 i1 (R.left hg1) (.inl hex)) (fun u s' ⟨es', a, xs, H', e2, I2, eu, S2, h1, h2, h3⟩ => ?_) fun _ _ q => z0g.later e1 S1 (q.bind _)
  have hgx := R.next hg1 e2
  obtain ⟨n, e3⟩ := R.guard_ne hgx
  exact ⟨es', a, xs, H', (R.step e1 _).trans ((R.step e2 _).trans e3), I2, eu, S1.trans S2, S1.free h1, h2, IsAll.hid (((fo.same S1).same S2).cons h2) es' xs n h3⟩
end
noncomputable def JD (K : PySem.W.Frag) (H : Hp) (F : List Addr) (J : It) (ds : List D) : Prop := ∀ H1, (∀ b o, b ∉ F -> H b = some o -> H1 b = some o) ->
  (∀ i : Nat, i < ds.length -> J.go i H1 /\ ∀ x H2, J.yld i H1 x H2 -> H2 = H1 /\ ∃ d, ds[i]? = some d /\ ∀ F', (∀ b, b ∈ F' -> b ∈ F ∨ H b = none) -> Is K (hid F' H1) d x) /\ J.stop ds.length H1
structure PIx (Jx : PySem.W.Frag -> Hp -> List Addr -> It -> List D -> Prop) (X : Cx) (tg iter : Expr) (g : G -> R (List D)) : Prop where
  run : ∀ (pins : List (Addr × Obj)) (s : Shared) (σ : St) (H : Hp) (F : List Addr) (Γ : G), Inv X pins σ H s -> FOk H F -> Rel X.K H F Γ σ -> g Γ ≠ .no ->
    wpAny (model X.prog X.w) X.A (eval iter X.env) (fun v s1 => wpAny (model X.prog X.w) X.A (pyIter v) (fun itv s2 => ∃ (ds : List D) (it : Addr) (fp : List Addr) (tn : Nat -> Heap -> Prop) (J : It) (H' : Hp), g Γ = .ok ds /\ itv = .ref it /\ Inv X pins σ H' s2 /\ Same H H' /\
      Turn X.prog X.w X.K tg J fp it tn /\ tn 0 s2.heap /\ (∀ b ∈ fp, FpOk X pins H' b) /\ Jx X.K H' F J ds) (z0g X pins σ H (g Γ)) s1) (z0g X pins σ H (g Γ)) s
noncomputable abbrev PIF := PIx JD
section
variable {X : Cx} {tg a b : Expr} {ga gb : G -> R D}
theorem z7l {H H1 : Hp} {F F' : List Addr} (S : ∀ b o, b ∉ F -> H b = some o -> H1 b = some o) (o : ∀ b, b ∈ F' -> b ∈ F ∨ H b = none) : Same (hid F H) (hid F' H1) := Ext.hid ⟨S, o⟩
theorem y1r {K : PySem.W.Frag} {H : Hp} {F : List Addr} {p : Addr} {xs : List V} {ds : List D} (h : SqT K (hid F H) p xs) (i : IsAll K (hid F H) ds xs) : JD K H F (Itt K p) ds := fun H1 S => by
  have h1 : SqT K H1 p xs := z1c (z1a (F := F)) (z1c (z7l S fun b hb => .inl hb) h)
  have il := i.length
  refine ⟨fun j hj => ⟨⟨xs, xs[j]'(by omega), h1, List.getElem?_eq_getElem (by omega)⟩, fun x H2 y => ⟨y.1, ?_⟩⟩, ⟨xs, h1, by omega⟩⟩
  obtain ⟨d, ed, iv⟩ := i.getX (y.2 xs h1)
  exact ⟨d, ed, fun F' hF => iv.same (z7l S hF)⟩
theorem z9p {K : PySem.W.Frag} {H : Hp} {F : List Addr} {p : Addr} {xs : List V} {ds : List D} (h : SqL K (hid F H) p xs) (i : IsAll K (hid F H) ds xs) : JD K H F (Itl K p) ds := fun H1 S => by
  have h1 : SqL K H1 p xs := (z1a (F := F)).seq ((z7l S fun b hb => .inl hb).seq h)
  have il := i.length
  refine ⟨fun j hj => ⟨⟨xs, xs[j]'(by omega), h1, List.getElem?_eq_getElem (by omega)⟩, fun x H2 y => ⟨y.1, ?_⟩⟩, ⟨xs, h1, by omega⟩⟩
  obtain ⟨d, ed, iv⟩ := i.getX (y.2 xs h1)
  exact ⟨d, ed, fun F' hF => iv.same (z7l S hF)⟩
theorem z9s {pins : List (Addr × Obj)} {σ : St} {H : Hp} {s : Shared} {p : Addr} {xs : List V} {E : Value -> Shared -> Prop} {Q : Value -> Shared -> Prop} (I : Inv X pins σ H s) (h : SqL X.K H p xs)
    (q : ∀ it s2, Inv X pins σ H s2 -> Turn X.prog X.w X.K tg (Itl X.K p) [it] it (fun i h => h.IsListIter it p i) -> s2.heap.IsListIter it p 0 -> (∀ b ∈ [it], FpOk X pins H b) -> Q (.ref it) s2) : wpAny (model X.prog X.w) X.A (pyIter (.ref p)) Q E s := by
  obtain ⟨its, rv, pl, hz⟩ := I.list h
  refine wpAny_pyIter_list pl.isList (q s.heap.objs.size _ (I.kept (t' := s.toks) fun b o e => Heap.get?_push_of_some _ e) (z5r p _) ⟨_, Heap.get?_push_size _ rfl, rfl, rfl⟩ fun b hb => ?_)
  have e : b = s.heap.objs.size := by simpa using hb
  subst e
  exact I.fpOk (Nat.le_refl _) (I.hok.fresh (Nat.le_refl _))
theorem y1t {pins : List (Addr × Obj)} {σ : St} {H : Hp} {s : Shared} {p : Addr} {xs : List V} {E : Value -> Shared -> Prop} {Q : Value -> Shared -> Prop} (I : Inv X pins σ H s) (h : SqT X.K H p xs)
    (q : ∀ it s2, Inv X pins σ H s2 -> Turn X.prog X.w X.K tg (Itt X.K p) [it] it (fun i h => h.IsTupleIter it p i) -> s2.heap.IsTupleIter it p 0 -> (∀ b ∈ [it], FpOk X pins H b) -> Q (.ref it) s2) : wpAny (model X.prog X.w) X.A (pyIter (.ref p)) Q E s := by
  obtain ⟨its, rv, pl, hz⟩ := I.tuple h
  refine wpAny_pyIter_tuple (show s.heap.IsTuple p its.toArray from pl) (q s.heap.objs.size _ (I.kept (t' := s.toks) fun b o e => Heap.get?_push_of_some _ e) (z5g p _) ⟨_, Heap.get?_push_size _ rfl, rfl, rfl⟩ fun b hb => ?_)
  have e : b = s.heap.objs.size := by simpa using hb
  subst e
  exact I.fpOk (Nat.le_refl _) (I.hok.fresh (Nat.le_refl _))
theorem z4f (ha : PDr X a ga) : PIF X tg a (gSeq ga) := by
  refine ⟨fun pins s σ H F Γ I fo rl hg => ?_⟩
  refine wpAny_mono (ha.run pins s σ H F Γ I fo rl (R.left hg)) (fun v s1 ⟨d, x, H1, e1, I1, r1, S1, i1⟩ => ?_) fun _ _ x => x.bind _
  have hg1 := R.next hg e1
  cases d with
  | tup ds =>
    obtain ⟨p, xs, rfl, h1, h2⟩ := Is.tup_iff.mp i1
    cases (show v = Value.ref p from r1)
    exact y1t (tg := tg) I1 (z1c (z1a (F := F)) h1) fun it s2 I2 T t0 fk => ⟨ds, it, _, _, _, H1, R.step e1 _, rfl, I2, S1, T, t0, fk, y1r h1 h2⟩
  | lst ds =>
    obtain ⟨p, xs, rfl, h1, h2⟩ := Is.lst_iff.mp i1
    cases (show v = Value.ref p from r1)
    exact z9s (tg := tg) I1 ((z1a (F := F)).seq h1) fun it s2 I2 T t0 fk => ⟨ds, it, _, _, _, H1, R.step e1 _, rfl, I2, S1, T, t0, fk, z9p h1 h2⟩
  | _ => exact absurd rfl hg1
end
noncomputable def capt (env : Env) : List (Str × NameKind) -> List (Str × Addr) -> List (Str × Addr)
  | [], cs => cs
  | (n, k) :: r, cs => if (k == .free) = true then (match env.cells.lookup n with | some a => capt env r ((n, a) :: cs) | none => capt env r cs) else capt env r cs
structure CompOk (N : List Str) (env : Env) (y : Str) (scope : Scope) : Prop where
  kind : scope.kind = .function
  nocell : ∀ p ∈ scope.names, p.2 ≠ .cell
  names : ∀ p ∈ scope.names, p.2 = .local -> scope.names.lookup p.1 = some .local
  free : ∀ p ∈ scope.names, p.2 = .free -> (∃ c, env.cells.lookup p.1 = some c) /\ (env.scope.names.lookup p.1 = some .cell ∨ env.scope.names.lookup p.1 = some .free)
  loc : scope.names.lookup y = some .local
  nil : scope.names.lookup (("" : Str)) = none
  only : ∀ z ∈ N, scope.names.lookup z = some .local -> z = y
  none : ∀ z ∈ N, z ≠ ("" : Str)
noncomputable def z1y (X : Cx) (y : Str) (scope : Scope) (C : Addr) (s₂ : Shared) (H₂ : Hp) (fp : List Addr) (pn : List (Addr × Obj)) : Cx :=
  { X with N := y :: X.N.map (fun z => if z = y then ("" : Str) else z), s₀ := s₂, H₀ := H₂, env := compEnvC scope (capt X.env scope.names []) C X.env, outer := X.stack, ex := fp, fn := fun _ => false, pn := pn, xe := fun _ _ => False }
section
variable {X : Cx} {y : Str} {scope : Scope}
structure PC1 (X : Cx) (y : Str) (scope : Scope) (ifs : List Expr) (elt : Expr) (f : D -> G -> R (Option D)) : Prop where
  run : ∀ (C : Addr) (s₂ : Shared) (H₂ : Hp) (fp : List Addr) (pn : List (Addr × Obj)) (pins : List (Addr × Obj)) (s : Shared) (σ : St) (H : Hp) (F : List Addr) (Γ : G) (d : D), Inv (z1y X y scope C s₂ H₂ fp pn) pins σ H s -> FOk H F -> Rel X.K H F (.ro d :: Γ) σ -> (∃ o, f d Γ = .ok o) ->
    wpAny (model X.prog X.w) X.A (forIn ifs true fun c r => if r = true then do let ok <- isTrue c (compEnvC scope (capt X.env scope.names []) C X.env) (eval c (compEnvC scope (capt X.env scope.names []) C X.env)); pure (ForInStep.yield ok) else pure (ForInStep.yield r)) (fun ok s₃ =>
      if ok = true then wpAny (model X.prog X.w) X.A (eval elt (compEnvC scope (capt X.env scope.names []) C X.env)) (fun u s₄ => ∃ e v H', f d Γ = .ok (some e) /\ Inv (z1y X y scope C s₂ H₂ fp pn) pins σ H' s₄ /\ RelV v u /\ Same H H' /\ Is X.K (hid F H') e v) (fun _ _ => False) s₃
      else f d Γ = .ok none /\ ∃ H', Inv (z1y X y scope C s₂ H₂ fp pn) pins σ H' s₃ /\ Same H H') (fun _ _ => False) s
end
noncomputable def NxP (X : Cx) (pins : List (Addr × Obj)) (H : Hp) (F : List Addr) (Γ : G) (s' : Shared) : Prop := ∃ σ' H' F', Inv X pins σ' H' s' /\ FOk H' F' /\ Rel X.K H' F' Γ σ' /\ Ext H F H' F'
noncomputable def RtP (X : Cx) (pins : List (Addr × Obj)) (H : Hp) (F : List Addr) (r : R Fl) (u : Value) (s' : Shared) : Prop := ∃ v σ' H' F', Inv X pins σ' H' s' /\ RelV v u /\ Ext H F H' F' /\
  ((∃ d, r = .ok (.rt d) /\ Is X.K H' d v) ∨ ∃ ds a xs, r = .ok (.rtF ds) /\ v = .ref a /\ (a ∈ F ∨ H a = none) /\ H' a = some (.lst xs) /\ IsAll X.K H' ds xs)
theorem RtP.map {X : Cx} {pins pins' : List (Addr × Obj)} {H H1 : Hp} {F F1 : List Addr} {r r' : R Fl} {u : Value} {s' : Shared} (h : RtP X pins H1 F1 r u s') (E : Ext H F H1 F1) (hI : ∀ σ' H', Inv X pins σ' H' s' -> Inv X pins' σ' H' s')
    (h1 : ∀ d, r = .ok (.rt d) -> r' = .ok (.rt d)) (h2 : ∀ ds, r = .ok (.rtF ds) -> r' = .ok (.rtF ds)) : RtP X pins' H F r' u s' := by
  obtain ⟨v, σ', H', F', I, rv, E', q⟩ := h
  refine ⟨v, σ', H', F', hI _ _ I, rv, E.trans E', ?_⟩
  rcases q with ⟨d, e, i⟩ | ⟨ds, a, xs, e, ev, hn, ha, i⟩
  · exact .inl ⟨d, h1 d e, i⟩
  · refine .inr ⟨ds, a, xs, h2 ds e, ev, ?_, ha, i⟩
    rcases hn with z | z
    · exact E.old a z
    · by_cases c : a ∈ F
      · exact .inl c
      · refine .inr ?_
        cases q : H a with
        | none => rfl
        | some o => rw [E.keep a o c q] at z; cases z
noncomputable def FlP (X : Cx) (pins : List (Addr × Obj)) (H : Hp) (F : List Addr) (r : R Fl) (fl : Flow) (s' : Shared) : Prop := match fl with
  | .next => ∃ Γ', r = .ok (.nx Γ') /\ NxP X pins H F Γ' s'
  | .brk => ∃ Γ', r = .ok (.bk Γ') /\ NxP X pins H F Γ' s'
  | .cont => ∃ Γ', r = .ok (.ct Γ') /\ NxP X pins H F Γ' s'
  | .ret u => RtP X pins H F r u s'
noncomputable def FlX (X : Cx) (pins : List (Addr × Obj)) (H : Hp) (F : List Addr) (r : R Fl) (x : Value) (s' : Shared) : Prop := ∃ c Γ' σ' H' F', r = .ok (.ex c Γ') /\ z4e X pins σ' H' c x s' /\ FOk H' F' /\ Rel X.K H' F' Γ' σ' /\ Ext H F H' F'
structure PQ (X : Cx) (st : Stmt) (g : G -> R Fl) : Prop where
  run : ∀ (pins : List (Addr × Obj)) (s : Shared) (σ : St) (H : Hp) (F : List Addr) (Γ : G), Inv X pins σ H s -> FOk H F -> Rel X.K H F Γ σ -> g Γ ≠ .no ->
    wpAny (model X.prog X.w) X.A (exec st X.env) (FlP X pins H F (g Γ)) (FlX X pins H F (g Γ)) s
structure PQs (X : Cx) (st : List Stmt) (g : G -> R Fl) : Prop where
  run : ∀ (pins : List (Addr × Obj)) (s : Shared) (σ : St) (H : Hp) (F : List Addr) (Γ : G), Inv X pins σ H s -> FOk H F -> Rel X.K H F Γ σ -> g Γ ≠ .no ->
    wpAny (model X.prog X.w) X.A (execs st X.env) (FlP X pins H F (g Γ)) (FlX X pins H F (g Γ)) s
theorem FlP.later {X : Cx} {pins : List (Addr × Obj)} {H H1 : Hp} {F F1 : List Addr} {r : R Fl} {fl : Flow} {s' : Shared} (E : Ext H F H1 F1) (h : FlP X pins H1 F1 r fl s') : FlP X pins H F r fl s' := by
  cases fl with
  | next => obtain ⟨Γ', e, σ', H', F', h1, h2, h3, h4⟩ := h; exact ⟨Γ', e, σ', H', F', h1, h2, h3, E.trans h4⟩
  | brk => obtain ⟨Γ', e, σ', H', F', h1, h2, h3, h4⟩ := h; exact ⟨Γ', e, σ', H', F', h1, h2, h3, E.trans h4⟩
  | cont => obtain ⟨Γ', e, σ', H', F', h1, h2, h3, h4⟩ := h; exact ⟨Γ', e, σ', H', F', h1, h2, h3, E.trans h4⟩
  | ret u => exact RtP.map h E (fun _ _ I => I) (fun _ e => e) fun _ e => e
theorem FlX.later {X : Cx} {pins : List (Addr × Obj)} {H H1 : Hp} {F F1 : List Addr} {r : R Fl} {x : Value} {s' : Shared} (E : Ext H F H1 F1) (h : FlX X pins H1 F1 r x s') : FlX X pins H F r x s' := by
  obtain ⟨c, Γ', σ', H', F', e, h1, h2, h3, h4⟩ := h
  exact ⟨c, Γ', σ', H', F', e, h1, h2, h3, E.trans h4⟩
theorem z0g.lift {α : Type} {X : Cx} {pins : List (Addr × Obj)} {σ : St} {H : Hp} {F : List Addr} {Γ : G} {r : R α} {x : Value} {s' : Shared} (fo : FOk H F) (rl : Rel X.K H F Γ σ) (h : z0g X pins σ H r x s') (k : α -> R Fl) : FlX X pins H F (lift r Γ k) x s' := by
  obtain ⟨c, H', e, S, fl⟩ := h
  exact ⟨c, Γ, σ, H', F, by rw [e]; rfl, fl, fo.same S, rl.same S, .of_same S⟩
theorem Rel.set_ro {K : PySem.W.Frag} {H : Hp} {F : List Addr} {Γ : G} {σ : St} {i : Nat} {d : D} {v : V} (r : Rel K H F Γ σ) (iv : Is K (hid F H) d v) : Rel K H F (Γ.set i (.ro d)) (σ.set i (some v)) where
  len := by rw [List.length_set, List.length_set, r.len]
  ro := fun j d' h => by
    by_cases e : i = j
    · subst e
      by_cases hi : i < Γ.length
      · rw [List.getElem?_set_self hi] at h; cases h
        exact ⟨v, List.getElem?_set_self (by rw [<- r.len]; exact hi), iv⟩
      · rw [List.getElem?_eq_none (by rw [List.length_set]; omega)] at h; cases h
    · rw [List.getElem?_set_ne e] at h
      rw [List.getElem?_set_ne e]
      exact r.ro j d' h
  own := fun j ds h => by
    by_cases e : i = j
    · subst e
      by_cases hi : i < Γ.length
      · rw [List.getElem?_set_self hi] at h; cases h
      · rw [List.getElem?_eq_none (by rw [List.length_set]; omega)] at h; cases h
    · rw [List.getElem?_set_ne e] at h
      rw [List.getElem?_set_ne e]
      exact r.own j ds h
  inj := fun j k ds es a h1 h2 h3 h4 => by
    by_cases ej : i = j
    · subst ej
      by_cases hi : i < Γ.length
      · rw [List.getElem?_set_self hi] at h1; cases h1
      · rw [List.getElem?_eq_none (by rw [List.length_set]; omega)] at h1; cases h1
    · by_cases ek : i = k
      · subst ek
        by_cases hi : i < Γ.length
        · rw [List.getElem?_set_self hi] at h2; cases h2
        · rw [List.getElem?_eq_none (by rw [List.length_set]; omega)] at h2; cases h2
      · rw [List.getElem?_set_ne ej] at h1 h3
        rw [List.getElem?_set_ne ek] at h2 h4
        exact r.inj j k ds es a h1 h2 h3 h4
theorem Rel.set_own {K : PySem.W.Frag} {H H' : Hp} {F : List Addr} {Γ : G} {σ : St} {i : Nat} {ds : List D} {xs : List V} {a : Addr} (r : Rel K H F Γ σ) (fo : FOk H F) (S : Same H H') (hn : H a = none) (ha : H' a = some (.lst xs)) (iv : IsAll K (hid (a :: F) H') ds xs) : Rel K H' (a :: F) (Γ.set i (.own ds)) (σ.set i (some (.ref a))) where
  len := by rw [List.length_set, List.length_set, r.len]
  ro := fun j d' h => by
    by_cases e : i = j
    · subst e
      by_cases hi : i < Γ.length
      · rw [List.getElem?_set_self hi] at h; cases h
      · rw [List.getElem?_eq_none (by rw [List.length_set]; omega)] at h; cases h
    · rw [List.getElem?_set_ne e] at h
      rw [List.getElem?_set_ne e]
      obtain ⟨v, h1, h2⟩ := r.ro j d' h
      exact ⟨v, h1, h2.same (z6s S hn)⟩
  own := fun j ds' h => by
    by_cases e : i = j
    · subst e
      by_cases hi : i < Γ.length
      · rw [List.getElem?_set_self hi] at h; cases h
        exact ⟨a, xs, List.getElem?_set_self (by rw [<- r.len]; exact hi), List.mem_cons_self, ha, iv⟩
      · rw [List.getElem?_eq_none (by rw [List.length_set]; omega)] at h; cases h
    · rw [List.getElem?_set_ne e] at h
      rw [List.getElem?_set_ne e]
      obtain ⟨b, ys, h1, h2, h3, h4⟩ := r.own j ds' h
      exact ⟨b, ys, h1, List.mem_cons_of_mem _ h2, S _ _ h3, h4.same (z6s S hn)⟩
  inj := fun j k ds' es b h1 h2 h3 h4 => by
    have nF : ∀ (l : Nat) (es' : List D), i ≠ l -> Γ[l]? = some (.own es') -> σ[l]? ≠ some (some (.ref a)) := fun l es' _ h z => by
      obtain ⟨b', ys, q1, q2, q3, _⟩ := r.own l es' h
      rw [z] at q1; cases q1
      rw [hn] at q3; cases q3
    by_cases ej : i = j
    · by_cases ek : i = k
      · rw [<- ej, <- ek]
      · exfalso
        subst ej
        have hi : i < σ.length := by
          by_cases hi : i < σ.length
          · exact hi
          · rw [List.getElem?_eq_none (by rw [List.length_set]; omega)] at h3; cases h3
        rw [List.getElem?_set_self hi] at h3; cases h3
        rw [List.getElem?_set_ne ek] at h2 h4
        exact nF k es ek h2 h4
    · by_cases ek : i = k
      · exfalso
        subst ek
        have hi : i < σ.length := by
          by_cases hi : i < σ.length
          · exact hi
          · rw [List.getElem?_eq_none (by rw [List.length_set]; omega)] at h4; cases h4
        rw [List.getElem?_set_self hi] at h4; cases h4
        rw [List.getElem?_set_ne ej] at h1 h3
        exact nF j ds' ej h1 h3
      · rw [List.getElem?_set_ne ej] at h1 h3
        rw [List.getElem?_set_ne ek] at h2 h4
        exact r.inj j k ds' es b h1 h2 h3 h4
theorem Rel.put {K : PySem.W.Frag} {H : Hp} {F : List Addr} {Γ : G} {σ : St} {i : Nat} {ds ds' : List D} {xs' : List V} {a : Addr} (r : Rel K H F Γ σ) (e : Γ[i]? = some (.own ds)) (ea : σ[i]? = some (some (.ref a))) (iv : IsAll K (hid F H) ds' xs') : Rel K (upd H a (.lst xs')) F (Γ.set i (.own ds')) σ /\ a ∈ F := by
  obtain ⟨a', xs, h1, hF, h3, h4⟩ := r.own i ds e
  rw [ea] at h1; cases h1
  have hh : hid F (upd H a (.lst xs')) = hid F H := by
    funext b
    by_cases hb : b ∈ F
    · rw [z8h hb, z8h hb]
    · rw [z0l hb, z0l hb, z0k (fun z => hb (by rw [z]; exact hF))]
  have hi : i < Γ.length := (List.getElem?_eq_some_iff.mp e).1
  refine ⟨⟨by rw [List.length_set, r.len], fun j d' h => ?_, fun j es h => ?_, fun j k es1 es2 b h1 h2 h3' h4' => ?_⟩, hF⟩
  · by_cases ej : i = j
    · subst ej; rw [List.getElem?_set_self hi] at h; cases h
    · rw [List.getElem?_set_ne ej] at h
      rw [hh]; exact r.ro j d' h
  · by_cases ej : i = j
    · subst ej; rw [List.getElem?_set_self hi] at h; cases h
      exact ⟨a, xs', ea, hF, z0p, by rw [hh]; exact iv⟩
    · rw [List.getElem?_set_ne ej] at h
      obtain ⟨b, ys, q1, q2, q3, q4⟩ := r.own j es h
      refine ⟨b, ys, q1, q2, ?_, by rw [hh]; exact q4⟩
      rw [z0k (fun z => ej (r.inj i j ds es a e h ea (by rw [<- z]; exact q1)))]; exact q3
  · have old : ∀ (l : Nat) (es' : List D), (Γ.set i (En.own ds'))[l]? = some (En.own es') -> ∃ es0, Γ[l]? = some (En.own es0) := fun l es' h => by
      by_cases el : i = l
      · subst el; exact ⟨ds, e⟩
      · rw [List.getElem?_set_ne el] at h; exact ⟨es', h⟩
    obtain ⟨e1, q1⟩ := old j es1 h1
    obtain ⟨e2, q2⟩ := old k es2 h2
    exact r.inj j k e1 e2 b q1 q2 h3' h4'
theorem Rel.frz {K : PySem.W.Frag} {H : Hp} {F : List Addr} {Γ : G} {σ : St} (r : Rel K H F Γ σ) (fo : FOk H F) (i : Nat) : ∃ F', FOk H F' /\ (∀ b, b ∈ F' -> b ∈ F) /\ Rel K H F' (L3.frz i Γ) σ := by
  unfold L3.frz
  split
  · rename_i ds e
    obtain ⟨a, xs, h1, hF, h3, h4⟩ := r.own i ds e
    have hi : i < Γ.length := (List.getElem?_eq_some_iff.mp e).1
    have sub : ∀ b, b ∈ F.filter (fun b => b != a) -> b ∈ F := fun b hb => (List.mem_filter.mp hb).1
    have up : Same (hid F H) (hid (F.filter (fun b => b != a)) H) := fun b o hb => by
      obtain ⟨z1, z2⟩ := z0z hb
      rw [z0l fun z => z1 (sub b z)]; exact z2
    have na : a ∉ F.filter (fun b => b != a) := fun z => by simpa using (List.mem_filter.mp z).2
    refine ⟨F.filter (fun b => b != a), fun b hb => fo b (sub b hb), sub, ⟨by rw [List.length_set, r.len], fun j d' h => ?_, fun j es h => ?_, fun j k es1 es2 b q1 q2 q3 q4 => ?_⟩⟩
    · by_cases ej : i = j
      · subst ej; rw [List.getElem?_set_self hi] at h; cases h
        exact ⟨.ref a, h1, Is.lst_iff.mpr ⟨a, xs, rfl, SqL.of (by rw [z0l na]; exact h3), h4.same up⟩⟩
      · rw [List.getElem?_set_ne ej] at h
        obtain ⟨v, q1, q2⟩ := r.ro j d' h
        exact ⟨v, q1, q2.same up⟩
    · by_cases ej : i = j
      · subst ej; rw [List.getElem?_set_self hi] at h; cases h
      · rw [List.getElem?_set_ne ej] at h
        obtain ⟨b, ys, q1, q2, q3, q4⟩ := r.own j es h
        refine ⟨b, ys, q1, List.mem_filter.mpr ⟨q2, ?_⟩, q3, q4.same up⟩
        have : b ≠ a := fun z => ej (r.inj i j ds es a e h h1 (z ▸ q1))
        simpa using this
    · by_cases ej : i = j
      · subst ej; rw [List.getElem?_set_self hi] at q1; cases q1
      · by_cases ek : i = k
        · subst ek; rw [List.getElem?_set_self hi] at q2; cases q2
        · rw [List.getElem?_set_ne ej] at q1
          rw [List.getElem?_set_ne ek] at q2
          exact r.inj j k es1 es2 b q1 q2 q3 q4
  · exact ⟨F, fo, fun _ h => h, r⟩
section
variable {X : Cx} {st : Stmt} {rest : List Stmt} {t u : G -> R Fl} {e a b c : Expr} {g ga gb : G -> R D} {pos p pos' : Pos}
theorem PQ.frz {st : Stmt} {g : G -> R Fl} (i : Nat) (h : PQ X st g) : PQ X st (fun Γ => g (L3.frz i Γ)) := by
  refine ⟨fun pins s σ H F Γ I fo rl hg => ?_⟩
  obtain ⟨F', fo', sub, rl'⟩ := rl.frz fo i
  have E : Ext H F H F' := ⟨fun _ _ _ h => h, fun b hb => .inl (sub b hb)⟩
  exact wpAny_mono (h.run pins s σ H F' _ I fo' rl' hg) (fun _ _ q => q.later E) fun _ _ q => q.later E
theorem z1d : PQs X [] z1b := ⟨fun pins s σ H F Γ I fo rl _ => wpAny_execs_nil ⟨Γ, rfl, σ, H, F, I, fo, rl, .refl⟩⟩
theorem z0c (h1 : PQ X st t) (h2 : PQs X rest u) : PQs X (st :: rest) (gSt t u) := by
  refine ⟨fun pins s σ H F Γ I fo rl hg => ?_⟩
  refine wpAny_execs_cons (wpAny_mono (h1.run pins s σ H F Γ I fo rl (R.left hg)) (fun fl s1 q => ?_) fun x s1 q => ?_)
  · cases fl with
    | next =>
      obtain ⟨Γ', e, σ', H', F', I', fo', rl', E⟩ := q
      have e2 : gSt t u Γ = u Γ' := R.step e _
      rw [e2] at hg ⊢
      exact wpAny_mono (h2.run pins s1 σ' H' F' Γ' I' fo' rl' hg) (fun _ _ q => q.later E) fun _ _ q => q.later E
    | ret v => exact RtP.map q .refl (fun _ _ I => I) (fun _ e => R.step e _) fun _ e => R.step e _
    | brk => obtain ⟨Γ', e, r⟩ := q; exact ⟨Γ', R.step e _, r⟩
    | cont => obtain ⟨Γ', e, r⟩ := q; exact ⟨Γ', R.step e _, r⟩
  · obtain ⟨c, Γ', σ', H', F', e, r⟩ := q
    exact ⟨c, Γ', σ', H', F', R.step e _, r⟩
theorem z0d (h1 : PQ X st t) : PQs X [st] t := by
  refine ⟨fun pins s σ H F Γ I fo rl hg => ?_⟩
  refine wpAny_execs_cons (thn (h1.run pins s σ H F Γ I fo rl hg) fun fl s1 q => ?_)
  cases fl with
  | next => exact wpAny_execs_nil q
  | ret v => exact q
  | brk => exact q
  | cont => exact q
theorem z0w (he : PD X e g) : PQ X (.Return (some e) pos) (gRet g) := ⟨fun pins s σ H F Γ I fo rl hg =>
  wpAny_Return_some (wpAny_mono (he.run pins s σ H F Γ I fo rl (z0u hg)) (fun u s1 ⟨d, v, H', e1, I', rv, S, i⟩ => ⟨v, σ, H', F, I', rv, .of_same S, .inl ⟨d, z1k e1, i⟩⟩) fun _ _ x => x.lift fo rl _)⟩
theorem z8u (i : Nat) {x : Str} {p : Pos} (hN : X.N[i]? = some x := by rfl) (hv : Vis X.env.scope x := by first | exact Or.inl rfl | exact Or.inr (Or.inl rfl) | exact Or.inr (Or.inr rfl)) (hd : (x == ("__debug__" : Str)) = false := by decide)
    (hcd : (x == ("__classdict__" : Str)) = false := by decide) : PQ X (.Return (some (.Name x p)) pos) (z6u i) := by
  refine ⟨fun pins s σ H F Γ I fo rl hg => ?_⟩
  unfold z6u at hg ⊢
  cases q : Γ[i]? with
  | none => rw [q] at hg; exact absurd rfl hg
  | some en =>
    cases en with
    | own ds =>
      obtain ⟨a, xs, h1, h2, h3, h4⟩ := rl.own i ds q
      refine wpAny_Return_some (wpAny_mono (z4q (X := X.nox) hN hv hd hcd pins s σ H (fun v' H' => v' = .ref a /\ H' = H) (I.wish _) ⟨.ref a, h1, rfl, rfl⟩) (fun u s1 ⟨v', H', I', r, e1, e2⟩ => ?_) fun _ _ z => False.elim z)
      subst e1 e2
      exact ⟨.ref a, σ, H', F, I'.unwish, r, .refl, .inr ⟨ds, a, xs, rfl, rfl, .inl h2, h3, h4.same z1a⟩⟩
    | _ => rw [q] at hg; exact absurd rfl hg
theorem z3i {cs ds : List Stmt} {gc : G -> R Bool} (hc : PTD X c gc) (ha : PQs X cs t) (hb : PQs X ds u) : PQ X (.If c cs ds pos) (gIfS gc t u) := by
  refine ⟨fun pins s σ H F Γ I fo rl hg => ?_⟩
  refine wpAny_If (wpAny_mono (hc.run pins s σ H F Γ I fo rl (z0u hg)) (fun k s1 ⟨H1, e1, I1, S1⟩ => ?_) fun _ _ x => x.lift fo rl _)
  have e2 : gIfS gc t u Γ = if k = true then t Γ else u Γ := z1k e1
  rw [e2] at hg ⊢
  cases k with
  | true => exact wpAny_mono (ha.run pins s1 σ H1 F Γ I1 (fo.same S1) (rl.same S1) hg) (fun _ _ q => q.later (.of_same S1)) fun _ _ q => q.later (.of_same S1)
  | false => exact wpAny_mono (hb.run pins s1 σ H1 F Γ I1 (fo.same S1) (rl.same S1) hg) (fun _ _ q => q.later (.of_same S1)) fun _ _ q => q.later (.of_same S1)
theorem z0x (i : Nat) {x : Str} (he : PDr X e g) (hN : X.N.Nodup) (hi : X.N[i]? = some x := by rfl) (hx : Loc X.env.scope x := by first | exact Or.inl rfl | exact Or.inr rfl) (hs : swapsWith e (some (.Name x pos')) pos.line X.env = pure false := by rfl) (hf : X.fn x = true ∨ X.env.scope.names.lookup x = some .local := by first | exact .inl rfl | exact .inr rfl | assumption) :
    PQ X (.Assign [.Name x pos'] e pos) (gSet i g) := by
  refine ⟨fun pins s σ H F Γ I fo rl hg => ?_⟩
  refine wpAny_Assign_Name (wpAny_mono (he.run pins s σ H F Γ I fo rl (z0u hg)) (fun v s1 ⟨d, y, H1, e1, I1, r1, S1, i1⟩ => ?_) fun _ _ x => x.lift fo rl _) hs
  exact z2x I1 hN hi hx r1 (fun s2 I2 => ⟨_, z1k e1, _, H1, F, I2, fo.same S1, (rl.same S1).set_ro i1, .of_same S1⟩) hf
theorem z5x (i : Nat) {x : Str} {g : G -> R (List D)} (he : PF X e g) (hN : X.N.Nodup) (hi : X.N[i]? = some x := by rfl) (hx : Loc X.env.scope x := by first | exact Or.inl rfl | exact Or.inr rfl) (hs : swapsWith e (some (.Name x pos')) pos.line X.env = pure false := by rfl) (hf : X.fn x = true ∨ X.env.scope.names.lookup x = some .local := by first | exact .inl rfl | exact .inr rfl | assumption) :
    PQ X (.Assign [.Name x pos'] e pos) (z3s i g) := by
  refine ⟨fun pins s σ H F Γ I fo rl hg => ?_⟩
  refine wpAny_Assign_Name (wpAny_mono (he.run pins s σ H F Γ I fo rl (z0u hg)) (fun v s1 ⟨ds, a, xs, H1, e1, I1, eu, S1, hn, ha, i1⟩ => ?_) fun _ _ x => x.lift fo rl _) hs
  subst eu
  exact z2x (v := .ref a) I1 hN hi hx rfl (fun s2 I2 => ⟨_, z1k e1, _, H1, a :: F, I2, (fo.same S1).cons ha, rl.set_own fo S1 hn ha i1, ⟨fun b o _ h => S1 _ _ h, fun b hb => (List.mem_cons.mp hb).elim (fun z => .inr (z ▸ hn)) .inl⟩⟩) hf
theorem z5z (i : Nat) {x : Str} {apos cpos : Pos} (he : PDr X e g) (hN : X.N[i]? = some x := by rfl) (hv : Vis X.env.scope x := by first | exact Or.inl rfl | exact Or.inr (Or.inl rfl) | exact Or.inr (Or.inr rfl)) (hd : (x == ("__debug__" : Str)) = false := by decide) (hcd : (x == ("__classdict__" : Str)) = false := by decide)
    (hsw : swapsWith (.Call (.Attribute (.Name x p) "append" apos) [e] [] cpos) none pos.line X.env = pure false := by rfl)
    (hbase : attributeBase (.Name x p) "append" X.env (eval (.Name x p) X.env) = eval (.Name x p) X.env := by rfl)
    (hfew : ((backTo cpos (starEach [e] X.env)).all (fun x => !x.1) && (backToKw cpos (keywordEach [] X.env)).all (fun x => x.1.isSome)
      && decide ([e].length + ([] : List Keyword).length + (if ([] : List Keyword).isEmpty then 0 else 1) < 30)) = true := by rfl)
    (hline : (apos.endLine == cpos.line) = true := by rfl) (hs : starEach [e] X.env = (false, eval e X.env) :: starEach [] X.env := by rfl) :
    PQ X (.Expr (.Call (.Attribute (.Name x p) "append" apos) [e] [] cpos) pos) (gApp i g) := by
  refine ⟨fun pins s σ H F Γ I fo rl hg => ?_⟩
  refine wpAny_Expr_any ?_ I.quiet hsw
  have hown : ∃ ds, Γ[i]? = some (.own ds) := by
    unfold gApp at hg
    split at hg
    · rename_i ds e1; exact ⟨ds, e1⟩
    · exact absurd rfl hg
  obtain ⟨ds, eo⟩ := hown
  have egA : gApp i g Γ = lift (g Γ) Γ fun d => R.guard (ds.length <= 100000) (.ok (.nx (Γ.set i (.own (ds ++ [d]))))) := by unfold gApp; rw [eo]
  rw [egA] at hg ⊢
  obtain ⟨a', xs, h1, hF, h3, h4⟩ := rl.own i ds eo
  refine wpAny_Call_method_late hbase hfew hline rfl (wpAny_mono (z4q (X := X.nox) hN hv hd hcd pins s σ H (fun v' H' => v' = .ref a' /\ H' = H) (I.wish _) ⟨.ref a', h1, rfl, rfl⟩) (fun v s1 ⟨v', H', I1, r1, e1, e2⟩ => ?_) fun _ _ z => False.elim z)
  subst e1 e2
  have I1' := I1.unwish
  obtain ⟨t1, t2⟩ := y0g (T := "list") I1' r1 (.inl ⟨rfl, xs, SqL.of h3⟩)
  refine ⟨"list", _, PySem.F.plainAttrs_list, PySem.F.slot_list_append, PySem.F.type_list_append, t1, t2, ?_⟩
  rw [hs]
  refine Calls.callWith_builtin rfl (Calls.evalArgs_plain ?_)
  show wpAny _ _ (spliced ((false, eval e X.env) :: backTo cpos [])) _ _ s1
  refine Calls.spliced_cons (wpAny_mono (he.run pins s1 σ H' F Γ I1' fo rl (z0u hg)) (fun u s2 ⟨d, y, H2, e3, I2, r2, S2, i2⟩ => Calls.spliced_nil ?_) fun _ _ x => x.lift fo rl _)
  have hgx := z6m hg e3
  obtain ⟨hl, e4⟩ := R.guard_ne hgx
  have hx2 := S2 _ _ h3
  have hsl : (100001 : Nat) <= sizeLine := by rw [sizeLine_eq]; decide
  have hxl := h4.length
  refine wpAny_mono (z6h (X := X.nox) pins s2 σ H2 (.ref a') [y] v [u] (fun z H'' => z = .non /\ H'' = upd H2 a' (.lst (xs ++ [y]))) (I2.wish _) r1 (.cons r2 .nil) ⟨a', xs, y, rfl, rfl, hx2, by omega, rfl, rfl⟩) (fun w' s3 ⟨z, H'', I3, rz, ez, eH⟩ => ?_) fun _ _ z => False.elim z
  subst ez eH
  obtain ⟨rl', hF'⟩ := (rl.same S2).put eo h1 (xs' := xs ++ [y]) (ds' := ds ++ [d]) ((h4.same (z2z S2)).append (IsAll.cons i2 IsAll.nil))
  refine ⟨_, (z1k e3).trans e4, σ, _, F, I3.unwish, fun b hb => ?_, rl', ⟨fun b o hb h => ?_, fun b hb => .inl hb⟩⟩
  · by_cases hba : b = a'
    · exact ⟨xs ++ [y], by rw [hba]; exact z0p⟩
    · obtain ⟨ys, q⟩ := fo b hb
      exact ⟨ys, by rw [z0k hba]; exact S2 _ _ q⟩
  · rw [z0k (fun z => hb (by rw [z]; exact hF))]; exact S2 _ _ h
noncomputable def PO' (X : Cx) : Prop := ∀ pins H F r, PassesOwn (model X.prog X.w) X.A X.env (FlX X pins H F r)
theorem z5y (i : Nat) {x : Str} {px : Pos} {iter : Expr} {body : List Stmt} {gi : G -> R (List D)} {gb : G -> R Fl} (hp : PO' X) (hcalm : X.calm = true) (hi : PIF X (.Name x px) iter gi) (hb : PQs X body gb) (hN : X.N.Nodup) (hix : X.N[i]? = some x := by rfl) (hx : Loc X.env.scope x := by first | exact Or.inl rfl | exact Or.inr rfl)
    (hf : X.fn x = true ∨ X.env.scope.names.lookup x = some .local := by first | exact .inl rfl | exact .inr rfl | assumption)
    (hs : ∀ x, foldedSetIterable iter X.env x = pure x := by intro _; rfl) : PQ X (.For (.Name x px) iter body [] pos) (gFor i gi gb) := by
  refine ⟨fun pins s σ H F Γ I fo rl hg => ?_⟩
  refine wpAny_For (wpAny_mono (hi.run pins s σ H F Γ I fo rl (z0u hg)) (fun v s1 h1 => wpAny_mono h1 (fun itv s2 h2 => ?_) fun _ _ x => x.lift fo rl _) fun _ _ x => x.lift fo rl _) hs
  obtain ⟨ds, it, fp, tn, J, H2, e1, rfl, I2, S2, T, t0, fk, jd⟩ := h2
  have eg : gFor i gi gb Γ = z0n gb i ds Γ := z1k e1
  rw [eg] at hg ⊢
  have hp' := hp pins H F (z0n gb i ds Γ)
  have stat : ∀ {H' : Hp}, (∀ b ∈ fp, H' b = none) -> ∀ b ∈ fp, FpOk X pins H' b := fun hn b hb => ⟨hn b hb, (fk b hb).2⟩
  refine codeAny_forLoop_any (fun n s' => ∃ (j : Nat) (σ' : St) (H' : Hp) (F' : List Addr) (Γ' : G), n = ds.length - j /\ j <= ds.length /\ Inv X pins σ' H' s' /\ tn j s'.heap /\ (∀ b ∈ fp, H' b = none) /\ FOk H' F' /\ Rel X.K H' F' Γ' σ' /\ Ext H2 F H' F' /\ z0n gb i (ds.drop j) Γ' = z0n gb i ds Γ) ?_ ds.length
    ⟨0, σ, H2, F, Γ, by omega, Nat.zero_le _, I2, t0, fun b hb => (fk b hb).1, fo.same S2, rl.same S2, .refl, by rw [List.drop_zero]⟩
  rintro n s3 ⟨j, σ3, H3, F3, Γ3, en, hj, I3, t3, fr3, fo3, rl3, E3, ev3⟩
  have E03 : Ext H F H3 F3 := (Ext.of_same S2).trans E3
  obtain ⟨jgo, jstop⟩ := jd H3 fun b o hb h => E3.keep b o hb h
  by_cases hlt : j < ds.length
  · obtain ⟨go, yl⟩ := jgo j hlt
    refine wpAny_passesOwn hp' (thn (T.item X rfl rfl rfl hcalm j pins s3 σ3 H3 _ I3 (stat fr3) t3 go) fun r s4 ⟨u, hr, h4⟩ => ?_)
    subst hr
    refine wpAny_passesOwn hp' (thn h4 fun _ s5 ⟨y, H5, I5, r5, y5, st5, fr5⟩ => ?_)
    obtain ⟨e5, d, ed, iv⟩ := yl y H5 y5
    subst e5
    have iv' := iv F3 fun b hb => E3.old b hb
    have hdrop : ds.drop j = d :: ds.drop (j + 1) := by
      rw [List.drop_eq_getElem_cons hlt]
      have : ds[j] = d := by
        have := List.getElem?_eq_getElem hlt
        rw [ed] at this; exact (Option.some.inj this).symm
      rw [this]
    have I5' := I5.pinned (stat fr5) (T.obj _ _ st5)
    have hpg : PG X.nox (.Name x px) (y1w i) := z8w (X := X.nox) hN hix hx hf
    refine wpAny_passesOwn hp' (wpAny_mono (hpg _ s5 σ3 H5 y u (fun σ' H' => σ' = σ3.set i (some y) /\ H' = H5) (I5'.wish _) r5 ⟨rfl, rfl⟩) (fun _ s6 ⟨σ6, H6, I6, e6, e6'⟩ => ?_) fun _ _ z => False.elim z)
    subst e6 e6'
    have evd : z0n gb i (d :: ds.drop (j + 1)) Γ3 = z0n gb i ds Γ := by rw [<- hdrop]; exact ev3
    have hgb : gb (Γ3.set i (.ro d)) ≠ .no := fun z => by
      rw [<- evd] at hg
      unfold z0n at hg
      rw [z] at hg
      exact hg rfl
    have back : ∀ {s7 : Shared} {σ7 : St} {H7 : Hp}, Inv X (pins ++ z4p fp s5.heap) σ7 H7 s7 -> Inv X pins σ7 H7 s7 /\ tn (j + 1) s7.heap /\ ∀ b ∈ fp, H7 b = none := fun {s7 σ7 H7} I7 => by
      refine ⟨I7.unpinned, T.keep _ _ _ st5 fun b hb o e => (I7.pin (b, o) (List.mem_append_right _ (List.mem_append_right _ (z2s hb e)))).1, fun b hb => ?_⟩
      obtain ⟨o, e, dd⟩ := T.obj _ _ st5 b hb
      exact (I7.pin (b, o) (List.mem_append_right _ (List.mem_append_right _ (z2s hb e)))).2.1
    refine wpAny_passesOwn hp' (wpAny_mono (hb.run _ s6 _ H6 F3 _ I6.unwish fo3 (rl3.set_ro iv') hgb) (fun f s7 q7 => ?_) fun x7 s7 q7 => ?_)
    · cases f with
      | next =>
        obtain ⟨Γ7, e7, σ7, H7, F7, I7, fo7, rl7, E7⟩ := q7
        obtain ⟨b1, b2, b3⟩ := back I7
        refine ⟨ds.length - (j + 1), by omega, j + 1, σ7, H7, F7, Γ7, rfl, hlt, b1, b2, b3, fo7, rl7, E3.trans E7, ?_⟩
        rw [<- evd]
        conv => rhs; unfold z0n
        rw [e7]
      | cont =>
        obtain ⟨Γ7, e7, σ7, H7, F7, I7, fo7, rl7, E7⟩ := q7
        obtain ⟨b1, b2, b3⟩ := back I7
        refine ⟨ds.length - (j + 1), by omega, j + 1, σ7, H7, F7, Γ7, rfl, hlt, b1, b2, b3, fo7, rl7, E3.trans E7, ?_⟩
        rw [<- evd]
        conv => rhs; unfold z0n
        rw [e7]
      | brk =>
        obtain ⟨Γ7, e7, σ7, H7, F7, I7, fo7, rl7, E7⟩ := q7
        refine ⟨Γ7, ?_, σ7, H7, F7, I7.unpinned, fo7, rl7, E03.trans E7⟩
        rw [<- evd]
        conv => lhs; unfold z0n
        rw [e7]
      | ret v7 =>
        refine RtP.map q7 E03 (fun _ _ I7 => I7.unpinned) (fun d7 e7 => ?_) fun d7 e7 => ?_
        · rw [<- evd]
          conv => lhs; unfold z0n
          rw [e7]
        · rw [<- evd]
          conv => lhs; unfold z0n
          rw [e7]
    · obtain ⟨c7, Γ7, σ7, H7, F7, e7, fl7, fo7, rl7, E7⟩ := q7
      refine ⟨c7, Γ7, σ7, H7, F7, ?_, ?_, fo7, rl7, E03.trans E7⟩
      · rw [<- evd]
        conv => lhs; unfold z0n
        rw [e7]
      · obtain ⟨I7, e', C', oe, vs, q1, q2, q3, q4, q5, q6, q7', q8⟩ := fl7
        refine ⟨I7.unpinned, e', C', oe, vs, q1, q2, q3, q4, q5, q6, fun p hp2 => q7' p ?_, ?_⟩
        · rcases List.mem_append.mp hp2 with z | z
          · exact List.mem_append_left _ z
          · exact List.mem_append_right _ (List.mem_append_left _ z)
        · obtain ⟨w1, w2, w3, w4, w5⟩ := q8
          refine ⟨w1, w2, w3, w4, ?_⟩
          rcases w5 with w5 | ⟨T', oT, ts, z1, z2, z3, z4, z5, z6, z7⟩
          · exact .inl w5
          · refine .inr ⟨T', oT, ts, z1, z2, z3, z4, z5, fun p hp2 => z6 p ?_, z7⟩
            rcases List.mem_append.mp hp2 with z | z
            · exact List.mem_append_left _ z
            · exact List.mem_append_right _ (List.mem_append_left _ z)
  · have ej : j = ds.length := by omega
    subst ej
    refine wpAny_passesOwn hp' (thn (T.done X rfl rfl rfl hcalm _ pins s3 σ3 H3 _ I3 (stat fr3) t3 jstop) fun r s4 ⟨hr, I4⟩ => ?_)
    subst hr
    rw [List.drop_length] at ev3
    exact wpAny_execs_nil ⟨Γ3, ev3.symm, σ3, H3, F3, I4, fo3, rl3, E03⟩
theorem z1o (n : Nat) {cnd : Expr} {body : List Stmt} {gc : G -> R Bool} {gb : G -> R Fl} (hp : PO' X) (hc : PTD X cnd gc) (hb : PQs X body gb) : PQ X (.While cnd body [] pos) (whGo gc gb n) := by
  refine ⟨fun pins s σ H F Γ I fo rl hg => ?_⟩
  have hp' := hp pins H F (whGo gc gb n Γ)
  refine wpAny_While (codeAny_whileLoop (fun m s' => ∃ (σ' : St) (H' : Hp) (F' : List Addr) (Γ' : G), Inv X pins σ' H' s' /\ FOk H' F' /\ Rel X.K H' F' Γ' σ' /\ Ext H F H' F' /\ whGo gc gb m Γ' = whGo gc gb n Γ) ?_ n ⟨σ, H, F, Γ, I, fo, rl, .refl, rfl⟩)
  rintro m s1 ⟨σ1, H1, F1, Γ1, I1, fo1, rl1, E1, ev1⟩
  have hg1 : whGo gc gb m Γ1 ≠ .no := by rw [ev1]; exact hg
  cases m with
  | zero => exact absurd rfl hg1
  | succ m =>
    have evu : whGo gc gb (m + 1) Γ1 = lift (gc Γ1) Γ1 fun k => if k = true then (match gb Γ1 with
      | .ok (.nx Γ') => whGo gc gb m Γ'
      | .ok (.ct Γ') => whGo gc gb m Γ'
      | .ok (.bk Γ') => .ok (.nx Γ')
      | .ok (.rt d) => .ok (.rt d)
      | .ok (.rtF d) => .ok (.rtF d)
      | .ok (.ex c Γ') => .ok (.ex c Γ')
      | _ => .no) else .ok (.nx Γ1) := rfl
    rw [evu] at hg1 ev1
    refine wpAny_passesOwn hp' (wpAny_mono (hc.run pins s1 σ1 H1 F1 Γ1 I1 fo1 rl1 (z0u hg1)) (fun k s2 ⟨H2, e2, I2, S2⟩ => ?_) fun _ _ x => by rw [<- ev1]; exact (x.lift fo1 rl1 _).later E1)
    rw [z1k e2] at hg1 ev1
    cases k with
    | false =>
      rw [if_neg Bool.false_ne_true] at ev1 ⊢
      exact wpAny_execs_nil ⟨Γ1, ev1.symm, σ1, H2, F1, I2, fo1.same S2, rl1.same S2, E1.trans (.of_same S2)⟩
    | true =>
      rw [if_pos rfl] at ev1 hg1 ⊢
      have hgb : gb Γ1 ≠ .no := fun z => by rw [z] at hg1; exact hg1 rfl
      refine wpAny_passesOwn hp' (wpAny_mono (hb.run pins s2 σ1 H2 F1 Γ1 I2 (fo1.same S2) (rl1.same S2) hgb) (fun f s3 q3 => ?_) fun x3 s3 q3 => ?_)
      · cases f with
        | next =>
          obtain ⟨Γ7, e7, σ7, H7, F7, I7, fo7, rl7, E7⟩ := q3
          rw [e7] at ev1
          exact ⟨m, Nat.lt_succ_self _, σ7, H7, F7, Γ7, I7, fo7, rl7, (E1.trans (.of_same S2)).trans E7, ev1⟩
        | cont =>
          obtain ⟨Γ7, e7, σ7, H7, F7, I7, fo7, rl7, E7⟩ := q3
          rw [e7] at ev1
          exact ⟨m, Nat.lt_succ_self _, σ7, H7, F7, Γ7, I7, fo7, rl7, (E1.trans (.of_same S2)).trans E7, ev1⟩
        | brk =>
          obtain ⟨Γ7, e7, σ7, H7, F7, I7, fo7, rl7, E7⟩ := q3
          rw [e7] at ev1
          exact ⟨Γ7, ev1.symm, σ7, H7, F7, I7, fo7, rl7, (E1.trans (.of_same S2)).trans E7⟩
        | ret v =>
          exact RtP.map q3 (E1.trans (.of_same S2)) (fun _ _ I7 => I7) (fun d7 e7 => by rw [e7] at ev1; exact ev1.symm) fun d7 e7 => by rw [e7] at ev1; exact ev1.symm
      · obtain ⟨c7, Γ7, σ7, H7, F7, e7, fl7, fo7, rl7, E7⟩ := q3
        rw [e7] at ev1
        exact ⟨c7, Γ7, σ7, H7, F7, ev1.symm, fl7, fo7, rl7, (E1.trans (.of_same S2)).trans E7⟩
end
noncomputable def z1z (X : Cx) (pins : List (Addr × Obj)) (σ : St) (H : Hp) (c : Er) (x : Value) (s : Shared) (fl : Value) : Prop :=
  Inv X pins σ H s /\ ∃ (e C : Addr) (oe : Obj) (vs : Array Value), x = .ref e /\ X.mg c.nm = some (.ref C) /\ H e = none /\ X.s₀.heap.get? e = none /\ e ≠ X.env.locals /\ (∀ y k, X.env.cells.lookup y = some k -> k ≠ e) /\ (∀ p ∈ X.pn ++ pins, p.1 ≠ e) /\
    s.heap.get? e = some oe /\ oe.cls = .ref C /\ oe.data = .fields vs /\ (∃ a0, vs[0]? = some a0) /\
    ∃ (T : Addr) (oT : Obj) (ts : Array Value), vs[1]? = some (.ref T) /\ H T = none /\ X.s₀.heap.get? T = none /\ T ≠ X.env.locals /\ (∀ y k, X.env.cells.lookup y = some k -> k ≠ T) /\ (∀ p ∈ X.pn ++ pins, p.1 ≠ T) /\ T ≠ e /\
      s.heap.get? T = some oT /\ oT.data = .fields ts /\ ts[3]? = some fl
section
variable {X : Cx} {pins : List (Addr × Obj)} {σ : St} {H : Hp} {c : Er} {x : Value} {s : Shared} {E : Value -> Shared -> Prop} {Q : Unit -> Shared -> Prop}
theorem z1z.none (h : z1z X pins σ H c x s .none) : z4e X pins σ H c x s := by
  obtain ⟨I, e, C, oe, vs, h1, h2, h3, h4, h5, h6, h7, h8, h9, h10, h11, T, oT, ts, k1, k2, k3, k4, k5, k6, k7, k8, k9, k10⟩ := h
  exact ⟨I, e, C, oe, vs, h1, h2, h3, h4, h5, h6, h7, h8, h9, h10, h11, .inr ⟨T, oT, ts, k1, k2, k3, k4, k5, k6, k7, k8, k9, .inl k10⟩⟩
theorem z1z.here {L : Addr} (hf : X.env.frame = some L) (h : z1z X pins σ H c x s (rawInt L)) : z4e X pins σ H c x s := by
  obtain ⟨I, e, C, oe, vs, h1, h2, h3, h4, h5, h6, h7, h8, h9, h10, h11, T, oT, ts, k1, k2, k3, k4, k5, k6, k7, k8, k9, k10⟩ := h
  exact ⟨I, e, C, oe, vs, h1, h2, h3, h4, h5, h6, h7, h8, h9, h10, h11, .inr ⟨T, oT, ts, k1, k2, k3, k4, k5, k6, k7, k8, k9, .inr ⟨L, hf, k10⟩⟩⟩
theorem y0z {P : Program} {w : World} {H : Hp} {h : Heap} {a : Addr} {o : HO} (x : z1u P w H h a o) : ∃ ob, h.get? a = some ob := by
  cases o with
  | lst xs => obtain ⟨_, _, _, _, e⟩ := x; exact ⟨_, e⟩
  | tup xs => obtain ⟨_, _, _, ob, e, _⟩ := x; exact ⟨_, e⟩
  | dK kvs => obtain ⟨_, _, _, _, o, _, _, e, _⟩ := x; exact ⟨_, e⟩
  | dT kvs => obtain ⟨_, _, _, _, o, _, _, e, _⟩ := x; exact ⟨_, e⟩
  | set S n => obtain ⟨o, _, _, _, e, _⟩ := x; exact ⟨_, e⟩
  | ins C dx fs => obtain ⟨_, _, _, e, _⟩ := x; exact ⟨_, e⟩
  | own y => exact x
  | xd fs => obtain ⟨_, ⟨_, _, _, e, _⟩, _⟩ := x; exact ⟨_, e⟩
  | rng lo hi => obtain ⟨_, _, _, e⟩ := x; exact ⟨_, e⟩
  | frz ob u => obtain ⟨e, _⟩ := x; exact ⟨_, e⟩
  | tbl ps => exact ⟨_, x⟩
  | met f y => exact ⟨_, x⟩
  | ext φ => exact x.2.1
theorem Inv.recs {ch : List Addr} {h' : Heap} (I : Inv X pins σ H s) (hch : ∀ b ∈ ch, H b = none /\ X.s₀.heap.get? b = none /\ b ≠ X.env.locals /\ (∀ y k, X.env.cells.lookup y = some k -> k ≠ b) /\ ∀ p ∈ X.pn ++ pins, p.1 ≠ b)
    (keep : ∀ b o, b ∉ frs X.stack -> b ∉ ch -> s.heap.get? b = some o -> h'.get? b = some o) (slot : ∀ b o, b ∉ ch -> s.heap.get? b = some o -> ∃ sl, h'.get? b = some { o with slots := sl }) : Inv X pins σ H { s with heap := h' } := by
  refine I.call (g' := s.gens) (t' := s.toks) (d' := s.drawn) (ch := ch) ⟨fun b o e _ hb hc => keep b o hb hc e, fun b o e _ _ hc => slot b o hc e, fun _ _ _ n _ => n, fun b o e hc => let ⟨sl, q⟩ := slot b o hc e; ⟨_, q⟩, fun _ _ q => q, fun _ _ _ q => q, fun _ ps q => ⟨#[], by rw [q]; simp⟩⟩ (fun b u e => ?_) I.bare fun b hb => ?_
  · have tr : ∀ d w', H d = some w' -> d ∉ frs X.stack /\ d ∉ ch := fun d w' q => by
      refine ⟨fun z => ?_, fun z => ?_⟩
      · rw [I.stkFree d z] at q; cases q
      · rw [(hch d z).1] at q; cases q
    refine (I.hok b u e).stay (fun d v hd q => ?_) (fun _ q => q) fun _ _ q => q
    rcases hd with z | z
    · rw [z] at q ⊢; exact keep b v (tr b u e).1 (tr b u e).2 q
    · exact keep d v (tr d _ z).1 (tr d _ z).2 q
  · obtain ⟨h1, h2, h3, h4, h5⟩ := hch b hb
    exact ⟨.inr h2, h3, h4, h5⟩
noncomputable def hx (l : List Addr) : Hp := fun b => if b ∈ l then some (.own 0) else none
theorem y2u {l : List Addr} {b : Addr} (h : b ∈ l) : hx l b = some (.own 0) := by unfold hx; rw [if_pos h]
theorem z8g {l : List Addr} {b : Addr} (h : b ∉ l) : hx l b = none := by unfold hx; rw [if_neg h]
theorem z1f {h : Heap} {l : List Addr} {b : Addr} (hb : b ∈ l) : (hidT h (hx l)).get? b = none := by
  cases q : (hidT h (hx l)).get? b with
  | none => rfl
  | some o =>
    have z := (z4g q).2
    rw [y2u hb] at z; cases z
theorem z3m {L e C : Addr} {a0 : Value} {ch : List Addr} {h' : Heap} (hex : X.ex = []) (I : Inv X pins σ H s) (hmg : X.mg c.nm = some (.ref C)) (he : e ∈ ch) (hch : ∀ b ∈ ch, H b = none /\ X.s₀.heap.get? b = none /\ b ≠ X.env.locals /\ (∀ y k, X.env.cells.lookup y = some k -> k ≠ b) /\ ∀ p ∈ X.pn ++ pins, p.1 ≠ b)
    (hN : Heap.NotedW (hidT s.heap (hx (frs X.stack ++ ch))) X.stack e (.ref C) a0 (rawInt L) s.heap h') : z1z X pins σ H c (.ref e) { s with heap := h' } (rawInt L) := by
  obtain ⟨st, ff, ⟨oe', vs', T', oT', ts', q1, ⟨q2, q2'⟩, q3, q4, q5, q6, q7, q8, q9⟩, up⟩ := hN
  have keep : ∀ b o, b ∉ frs X.stack -> b ∉ ch -> s.heap.get? b = some o -> h'.get? b = some o := fun b o h1 h2 q => st b o (z3d q (z8g fun z => (List.mem_append.mp z).elim h1 h2))
  have slot : ∀ b o, b ∉ ch -> s.heap.get? b = some o -> ∃ sl, h'.get? b = some { o with slots := sl } := fun b o h2 q => by
    by_cases hb : b ∈ frs X.stack
    · obtain ⟨_, o', ho', hnf⟩ := I.stack.mem hb
      rw [q] at ho'; cases ho'
      exact up b o q hnf
    · exact ⟨o.slots, keep b o hb h2 q⟩
  have hT : H T' = none /\ X.s₀.heap.get? T' = none /\ T' ≠ X.env.locals /\ (∀ y k, X.env.cells.lookup y = some k -> k ≠ T') /\ ∀ p ∈ X.pn ++ pins, p.1 ≠ T' := by
    cases q : s.heap.get? T' with
    | none =>
      refine ⟨?_, I.gone hex q⟩
      cases z : H T' with
      | none => rfl
      | some u =>
        obtain ⟨o, eo⟩ := y0z (I.hok T' u z)
        rw [q] at eo; cases eo
    | some o =>
      have hin : T' ∈ frs X.stack ++ ch := by
        by_cases z : T' ∈ frs X.stack ++ ch
        · exact z
        · have := z3d q (z8g z)
          rw [q5] at this; cases this
      rcases List.mem_append.mp hin with z | z
      · exfalso
        obtain ⟨_, o', ho', hnf⟩ := I.stack.mem z
        rw [q] at ho'; cases ho'
        obtain ⟨sl, e1⟩ := up T' o q hnf
        rw [q7] at e1; cases e1
        exact hnf _ q8
      · exact hch T' z
  obtain ⟨f1, f2, f3, f4, f5⟩ := hch e he
  obtain ⟨g1, g2, g3, g4, g5⟩ := hT
  exact ⟨Inv.recs I hch keep slot, e, C, oe', vs', rfl, hmg, f1, f2, f3, f4, f5, q1, q2, q3, ⟨a0, q2'⟩, T', oT', ts', q4, g1, g2, g3, g4, g5, q6, q7, q8, q9⟩
theorem z5c {M : Model} {L : Addr} (hex : X.ex = []) (hstk : X.stack = X.env :: X.outer) (hf : X.env.frame = some L) (h : z4e X pins σ H c x s) (hQ : ∀ s', z1z X pins σ H c x s' (rawInt L) -> Q () s') : wpAny M X.A (noteFrame x X.env) Q E s := by
  obtain ⟨I, e, C, oe, vs, h1, h2, h3, h4, h5, h6, h7, h8, h9, h10, h11, h12⟩ := h
  subst h1
  obtain ⟨a0, h11⟩ := h11
  have hfr : X.A.frames = some (X.env :: X.outer) := by rw [<- hstk]; exact I.ok.frames
  have nfe : ∀ {b : Addr} {o : Obj} {ws : Array Value}, s.heap.get? b = some o -> o.data = .fields ws -> b ∉ frs X.stack := fun {b o ws} q1 q2 z => by
    obtain ⟨_, o', ho', hnf⟩ := I.stack.mem z
    rw [q1] at ho'; cases ho'
    exact hnf _ q2
  have hl : ∀ ch : List Addr, s.heap.FunFrames (hidT s.heap (hx (frs X.stack ++ ch))) (X.env :: X.outer) := fun ch => by
    have gen : ∀ (l : List Env), (∀ b ∈ frs l, b ∈ frs X.stack) -> s.heap.FunFrames X.base l -> s.heap.FunFrames (hidT s.heap (hx (frs X.stack ++ ch))) l := by
      intro l
      induction l with
      | nil => intro _ _; trivial
      | cons env r ih =>
        intro hs ⟨hk, ⟨L', o, hf', hn, ho, hd⟩, hr⟩
        have m1 : ∀ b ∈ frs r, b ∈ frs (env :: r) := fun b hb => by unfold frs at hb ⊢; rw [List.filterMap_cons, hf']; exact List.mem_cons_of_mem _ hb
        have m0 : L' ∈ frs (env :: r) := by unfold frs; rw [List.filterMap_cons, hf']; exact List.mem_cons_self
        exact ⟨hk, ⟨L', o, hf', z1f (List.mem_append_left _ (hs L' m0)), ho, hd⟩, ih (fun b hb => hs b (m1 b hb)) hr⟩
    rw [<- hstk]
    exact gen X.stack (fun _ h => h) I.stack
  have stays : ∀ ch : List Addr, (hidT s.heap (hx (frs X.stack ++ ch))).StaysIn s.heap := fun ch b o q => (z4g q).1
  rcases h12 with h12 | ⟨T, oT, ts, k1, k2, k3, k4, k5, k6, k7, k8, k9, k10⟩
  · have hsz : 1 < vs.size := (Array.getElem?_eq_some_iff.mp h12).1
    unfold noteFrame
    simp only [hf]
    refine wpAny_bind (wpAny_field h8 h10 h12 ?_)
    rw [if_neg (by decide)]
    refine wpAny_entryW hfr (hl [e]) hf h8 (stays [e]) (z1f (by simp)) h10 hsz h11 fun h' hN => hQ _ ?_
    rw [h9, <- hstk] at hN
    refine z3m (ch := [e]) hex I h2 (by simp) (fun b hb => ?_) hN
    have : b = e := by simpa using hb
    subst this
    exact ⟨h3, h4, h5, h6, h7⟩
  · have hcc : ∀ b ∈ [e, T], H b = none /\ X.s₀.heap.get? b = none /\ b ≠ X.env.locals /\ (∀ y k, X.env.cells.lookup y = some k -> k ≠ b) /\ ∀ p ∈ X.pn ++ pins, p.1 ≠ b := fun b hb => by
      have : b = e ∨ b = T := by simpa using hb
      rcases this with rfl | rfl
      · exact ⟨h3, h4, h5, h6, h7⟩
      · exact ⟨k2, k3, k4, k5, k6⟩
    rcases k10 with k10 | ⟨L', hL', k10⟩
    · refine wpAny_noteFrame_onW (cls := .ref C) (a0 := a0) hfr (hl [e, T]) hf ⟨oe, vs, T, oT, ts, h8, ⟨h9, h11⟩, h10, k1, z1f (by simp), k7, k8, k9, k10⟩ (stays [e, T]) (z1f (by simp)) fun h' hN => hQ _ ?_
      rw [<- hstk] at hN
      exact z3m (ch := [e, T]) hex I h2 (by simp) hcc hN
    · rw [hf] at hL'; cases hL'
      refine wpAny_noteFrame_againW (base := hidT s.heap (hx (frs X.stack ++ [e, T]))) (cls := .ref C) (a0 := a0) hf ⟨oe, vs, T, oT, ts, h8, ⟨h9, h11⟩, h10, k1, z1f (by simp), k7, k8, k9, k10⟩ (hQ s ?_)
      exact ⟨I, e, C, oe, vs, rfl, h2, h3, h4, h5, h6, h7, h8, h9, h10, ⟨a0, h11⟩, T, oT, ts, k1, k2, k3, k4, k5, k6, k7, k8, k9, k10⟩
theorem z6w {M : Model} {A : Around} {fl : Value} {fr : Option Addr} (h : z1z X pins σ H c x s fl) (hQ : ∀ s', z1z X pins σ H c x s' (fr.elim .none fun f => rawInt f) -> Q () s') : wpAny M A (setFlight x fr) Q E s := by
  obtain ⟨I, e, C, oe, vs, h1, h2, h3, h4, h5, h6, h7, h8, h9, h10, h11, T, oT, ts, k1, k2, k3, k4, k5, k6, k7, k8, k9, k10⟩ := h
  subst h1
  have hsz3 : 3 < ts.size := (Array.getElem?_eq_some_iff.mp k10).1
  have other : ∀ b, b ≠ T -> (s.heap.update T (Obj.mapFields (·.setIfInBounds 3 (fr.elim Value.none fun f => rawInt f)))).get? b = s.heap.get? b := fun b hb => Heap.get?_update_other _ _ (Ne.symm hb)
  unfold setFlight
  refine wpAny_bind (wpAny_field h8 h10 k1 ?_)
  rw [if_pos (show (Value.ref T != Value.none) = true from by simp)]
  refine wpAny_setField k8 k9 hsz3 (hQ _ ⟨Inv.recs (ch := [T]) I (fun b hb => ?_) (fun b o hb hc q => ?_) (fun b o hc q => ?_), e, C, oe, vs, rfl, h2, h3, h4, h5, h6, h7, (other e (Ne.symm k7)).trans h8, h9, h10, h11, T, _, _, k1, k2, k3, k4, k5, k6, k7,
    Heap.get?_update_self _ k8 (Obj.isFreed_of_fields (Obj.data_mapFields k9 _)), Obj.data_mapFields k9 _, by simp [hsz3]⟩)
  · have : b = T := by simpa using hb
    subst this
    exact ⟨k2, k3, k4, k5, k6⟩
  · have hc' : b ≠ T := by simpa using hc
    exact (other b hc').trans q
  · have hc' : b ≠ T := by simpa using hc
    exact ⟨o.slots, (other b hc').trans q⟩
theorem y2h {L : Addr} (hex : X.ex = []) (hstk : X.stack = X.env :: X.outer) (hf : X.env.frame = some L) : PO' X := fun pins H F r e s' h => by
  obtain ⟨c, Γ', σ', H', F', e1, fl, fo, rl, Ex⟩ := h
  refine z5c hex hstk hf fl fun s1 f1 => ?_
  obtain ⟨I, e', C, oe, vs, h1, h2, h3, h4, h5, h6, h7, h8, h9, h10, h11, T, oT, ts, k1, kr⟩ := id f1
  subst h1
  show wpAny _ _ _ _ _ _
  refine wpAny_bind (wpAny_field h8 h10 k1 ?_)
  rw [if_neg (show ¬ ((Value.ref T == Value.none) = true) from by simp)]
  rw [hf]
  exact z6w f1 fun s2 f2 => ⟨c, Γ', σ', H', F', e1, f2.here hf, fo, rl, Ex⟩
end
theorem z9t {H : Hp} : hid [] H = H := by funext b; unfold hid; simp
theorem z3h {K : PySem.W.Frag} {H : Hp} {N : List Str} {ds : List D} {vs : List V} (i : IsAll K H ds vs) : Rel K H [] (ini N.length ds) (L2.start N vs) := by
  have hl := i.length
  have key : ∀ (j : Nat) (en : En), (ini N.length ds)[j]? = some en -> (∃ d, en = .ro d /\ ds[j]? = some d) ∨ en = .no := fun j en h => by
    unfold ini at h
    by_cases hj : j < ds.length
    · rw [List.getElem?_append_left (by simpa using hj), List.getElem?_map, List.getElem?_eq_getElem hj] at h
      cases h
      exact .inl ⟨_, rfl, List.getElem?_eq_getElem hj⟩
    · rw [List.getElem?_append_right (by simpa using hj), List.getElem?_replicate] at h
      split at h
      · cases h; exact .inr rfl
      · cases h
  refine ⟨?_, fun j d h => ?_, fun j es h => ?_, fun j k es fs a h1 _ _ _ => ?_⟩
  · unfold ini L2.start
    simp [hl]
  · rcases key j _ h with ⟨d', e, hd⟩ | e
    · cases e
      obtain ⟨v, hv, iv⟩ := i.get hd
      refine ⟨v, ?_, by rw [z9t]; exact iv⟩
      unfold L2.start
      rw [List.getElem?_append_left (by rw [List.length_map]; exact (List.getElem?_eq_some_iff.mp hv).1), List.getElem?_map, hv]; rfl
    · cases e
  · rcases key j _ h with ⟨d', e, _⟩ | e <;> cases e
  · rcases key j _ h1 with ⟨d', e, _⟩ | e <;> cases e
section
variable {P : Program} {w : World} {K : PySem.W.Frag} {mg : Str -> Option Value} {base : Heap}
noncomputable abbrev z2q (P : Program) (w : World) (K : PySem.W.Frag) (mg : Str -> Option Value) (base : Heap) (N : List Str) (qual : Str) (st : Stmt) (f : Addr) (cdv : Value) (A : Around) (outer : List Env) (s : Shared) (H : Hp) (E : XK) : Cx :=
  cxOf (CXE P w) P w K mg base N qual (z0b st) f cdv A outer s H E
theorem z6o {N : List Str} {qual : Str} {st : Stmt} {f : Addr} {cdv : Value} {A : Around} {outer : List Env} {s s' : Shared} {H H' : Hp} {E : XK} {pins : List (Addr × Obj)} {σ' : St} {F' : List Addr} {c : Er} {x : Value}
    (fl : z4e (z2q P w K mg base N qual st f cdv A outer s H E) pins σ' H' c x s') (hE : ∀ C, mg c.nm = some (.ref C) -> E (.ref C) none H') : (z2q P w K mg base N qual st f cdv A outer s H E).xe x s' := by
  show wpAny _ _ (leaving _ x) _ _ s'
  unfold leaving
  refine wpAny_bind (z5c (L := s.heap.objs.size) rfl rfl rfl fl fun s1 f1 => ?_)
  refine z6w (fr := none) f1 fun s2 f2 => ?_
  obtain ⟨I, e, C, oe, vs, h1, h2, h3, h4, h5, h6, h7, h8, h9, h10, h11, T, oT, ts, k1, k2, k3, k4, k5, k6, k7, k8, k9, k10⟩ := f2
  exact ⟨e, C, T, oe, oT, vs, ts, H', h1, I.os, I.bare, I.base, I.hok, h3, h4, h8, h9, h10, h11, k1, k2, k3, k7, k8, k9, k10, hE C h2⟩
theorem z2l {x qual : Str} {st : Stmt} {f : Addr} {fd : FuncData} {N ps : List Str} {k : Nat} {φ : List D -> R D} (Fu : Fun K x qual st f fd) (S : FnScope N ps (z0b st)) (hb : z1l K fd ps []) (hlen : ∀ ds, φ ds ≠ .no -> ds.length = ps.length)
    (hbody : ∀ (cdv : Value) (A : Around) (outer : List Env) (s : Shared) (H : Hp) (E : XK), Room k (z2q P w K mg base N qual st f cdv A outer s H E).A -> ∃ g, PQs (z2q P w K mg base N qual st f cdv A outer s H E) (z0h st) g /\ ∀ ds, φ ds ≠ .no -> fin (g (ini N.length ds)) = φ ds) :
    FnD P w K mg base (k + 1) f fd ps φ := by
  refine ⟨?_, hb, Fu.kp⟩
  obtain ⟨oc, od, kV, doc, pm, an, cdv, ct, osl, rfl, lk, hcd⟩ := Fu.ex
  refine z9w lk hcd S (fun vs H Q E h => ?_) fun A outer s H vs Q E hr hsp => ?_
  · obtain ⟨ds, i, hne, _⟩ := h
    rw [<- i.length]; exact hlen ds hne
  obtain ⟨g, hq, hg⟩ := hbody cdv A outer s H E hr
  obtain ⟨ds, i, hne, hok, her⟩ := hsp
  have e0 := hg ds hne
  refine ⟨fun D' σ' H' => D' = { nx := fun _ H' => Q .non H', rt := Q } /\ σ' = L2.start N vs /\ H' = H, ?_, rfl, rfl, rfl⟩
  intro pins s1 σ1 H1 D1 I hw
  obtain ⟨rfl, rfl, rfl⟩ := hw
  have hgne : g (ini N.length ds) ≠ .no := fun z => hne (by rw [<- e0, z]; rfl)
  refine wpAny_mono (hq.run pins s1 (L2.start N vs) H1 [] (ini N.length ds) I FOk.nil (z3h i) hgne) (fun fl s' q => ?_) fun x' s' q => ?_
  · cases fl with
    | next =>
      obtain ⟨Γ', e1, σ', H', F', I', _, _, Ex⟩ := q
      exact ⟨σ', H', I', hok .non .non H' (by rw [<- e0, e1]; rfl) Ex.same (Is.non_iff.mpr rfl)⟩
    | ret u =>
      obtain ⟨v, σ', H', F', I', rv, Ex, ⟨d, e1, iv⟩ | ⟨es, a, xs, e1, ev, hn, ha, ia⟩⟩ := q
      · exact ⟨v, σ', H', I', rv, hok d v H' (by rw [<- e0, e1]; rfl) Ex.same iv⟩
      · exact absurd (by rw [<- e0, e1]; rfl) hne
    | brk => obtain ⟨Γ', e1, _⟩ := q; exact absurd (by rw [<- e0, e1]; rfl) hne
    | cont => obtain ⟨Γ', e1, _⟩ := q; exact absurd (by rw [<- e0, e1]; rfl) hne
  · obtain ⟨c, Γ', σ', H', F', e1, fl, fo, rl, Ex⟩ := q
    exact z6o (F' := F') fl fun C hC => her c C H' (by rw [<- e0, e1]; rfl) hC Ex.same
theorem y1y {x qual : Str} {st : Stmt} {f : Addr} {fd : FuncData} {N ps : List Str} {k : Nat} {φ : List D -> R (List D)} (Fu : Fun K x qual st f fd) (S : FnScope N ps (z0b st)) (hb : z1l K fd ps []) (hlen : ∀ ds, φ ds ≠ .no -> ds.length = ps.length)
    (hbody : ∀ (cdv : Value) (A : Around) (outer : List Env) (s : Shared) (H : Hp) (E : XK), Room k (z2q P w K mg base N qual st f cdv A outer s H E).A -> ∃ g, PQs (z2q P w K mg base N qual st f cdv A outer s H E) (z0h st) g /\ ∀ ds, φ ds ≠ .no -> finF (g (ini N.length ds)) = φ ds) :
    FnF P w K mg base (k + 1) f fd ps φ := by
  refine ⟨?_, hb, Fu.kp⟩
  obtain ⟨oc, od, kV, doc, pm, an, cdv, ct, osl, rfl, lk, hcd⟩ := Fu.ex
  refine z9w lk hcd S (fun vs H Q E h => ?_) fun A outer s H vs Q E hr hsp => ?_
  · obtain ⟨ds, i, hne, _⟩ := h
    rw [<- i.length]; exact hlen ds hne
  obtain ⟨g, hq, hg⟩ := hbody cdv A outer s H E hr
  obtain ⟨ds, i, hne, hok, her⟩ := hsp
  have e0 := hg ds hne
  refine ⟨fun D' σ' H' => D' = { nx := fun _ H' => Q .non H', rt := Q } /\ σ' = L2.start N vs /\ H' = H, ?_, rfl, rfl, rfl⟩
  intro pins s1 σ1 H1 D1 I hw
  obtain ⟨rfl, rfl, rfl⟩ := hw
  have hgne : g (ini N.length ds) ≠ .no := fun z => hne (by rw [<- e0, z]; rfl)
  refine wpAny_mono (hq.run pins s1 (L2.start N vs) H1 [] (ini N.length ds) I FOk.nil (z3h i) hgne) (fun fl s' q => ?_) fun x' s' q => ?_
  · cases fl with
    | next =>
      obtain ⟨Γ', e1, _⟩ := q
      exact absurd (by rw [<- e0, e1]; rfl) hne
    | ret u =>
      obtain ⟨v, σ', H', F', I', rv, Ex, ⟨d, e1, iv⟩ | ⟨es, a, xs, e1, ev, hn, ha, ia⟩⟩ := q
      · exact absurd (by rw [<- e0, e1]; rfl) hne
      · subst ev
        exact ⟨.ref a, σ', H', I', rv, hok es a xs H' (by rw [<- e0, e1]; rfl) Ex.same (hn.elim (fun z => absurd z (by simp)) fun z => z) ha ia⟩
    | brk => obtain ⟨Γ', e1, _⟩ := q; exact absurd (by rw [<- e0, e1]; rfl) hne
    | cont => obtain ⟨Γ', e1, _⟩ := q; exact absurd (by rw [<- e0, e1]; rfl) hne
  · obtain ⟨c, Γ', σ', H', F', e1, fl, fo, rl, Ex⟩ := q
    exact z6o (F' := F') fl fun C hC => her c C H' (by rw [<- e0, e1]; rfl) hC Ex.same
theorem z1e {N : List Str} {qual : Str} {st : Stmt} {f : Addr} {cdv : Value} {A : Around} {outer : List Env} {s : Shared} {H : Hp} {E : XK} : PO' (z2q P w K mg base N qual st f cdv A outer s H E) := y2h (L := s.heap.objs.size) rfl rfl rfl
end
section
variable {X : Cx} {e a b c : Expr} {g ga gb gc : G -> R D} {pos p : Pos}
noncomputable def isIC : Expr -> Bool
  | .Constant (.int _) _ _ => true
  | _ => false
noncomputable def icD : Expr -> D
  | .Constant (.int i) _ _ => .int i
  | _ => .non
theorem z5l {es : List Expr} (h : es.all isIC = true := by rfl) : PAD X es (fun _ => .ok (es.map icD)) := by
  induction es with
  | nil => exact z0t
  | cons e es ih =>
    have h1 : isIC e = true /\ es.all isIC = true := by simpa using h
    have h2 := ih h1.2
    cases e with
    | Constant c j q =>
      cases c with
      | int i =>
        refine ⟨fun pos pins s σ H F Γ I fo rl hg => ?_⟩
        exact (z0i (X := X) (e := .Constant (.int i) j q) z0e h2 (by rfl)).run pos pins s σ H F Γ I fo rl (fun z => nomatch z)
      | _ => exact absurd h1.1 (by simp [isIC])
    | _ => exact absurd h1.1 (by simp [isIC])
theorem y1u {pins : List (Addr × Obj)} {σ : St} {H : Hp} {s : Shared} {A : Around} {E : Value -> Shared -> Prop} {Q : Value -> Shared -> Prop} {d : D} {v : V} {u cv : Value} {b : Bool} (I : Inv X pins σ H s) (hnx : d.noX = true) (i : Is X.K H d v) (r : RelV v u) (e : PySem.W.kitOne X.K (.type d.ty) cv = some b) (h : ∀ tk, Q (.bool b) { s with toks := tk }) :
    wpAny (model X.prog X.w) A (call (.builtin "isinstance") [u, cv]) Q E s := by
  cases d with
  | non => rw [Is.non_iff.mp i] at r; cases (show u = Value.none from r); exact PySem.W.kia_one PySem.W.kitx_none I.kIn True.intro e (fun z => nomatch z) h
  | bl y => rw [Is.bl_iff.mp i] at r; cases (show u = Value.bool y from r); exact PySem.W.kia_one PySem.W.kitx_bool I.kIn True.intro e (fun z => nomatch z) h
  | int y => rw [Is.int_iff.mp i] at r; obtain ⟨t, q⟩ := (show ∃ t, u = Value.int y t from r); cases q; exact PySem.W.kia_one PySem.W.kitx_int I.kIn True.intro e (fun z => nomatch z) h
  | str y => rw [Is.str_iff.mp i] at r; obtain ⟨t, q⟩ := (show ∃ t, u = Value.str y t from r); cases q; exact PySem.W.kia_one PySem.W.kitx_str I.kIn True.intro e (fun z => nomatch z) h
  | tup ds =>
    obtain ⟨a, xs, rfl, h1, _⟩ := Is.tup_iff.mp i
    cases (show u = Value.ref a from r)
    obtain ⟨its, _, ⟨o, ho, hc, _⟩, _⟩ := I.tuple h1
    exact PySem.W.kia_one PySem.W.kitx_tuple I.kIn ⟨o, ho, hc⟩ e (fun z => nomatch z) h
  | lst ds =>
    obtain ⟨a, xs, rfl, h1, _⟩ := Is.lst_iff.mp i
    cases (show u = Value.ref a from r)
    obtain ⟨its, _, ⟨o, n, ho, hc, _⟩, _⟩ := I.list h1
    exact PySem.W.kia_one PySem.W.kitx_list I.kIn ⟨o, ho, hc⟩ e (fun z => nomatch z) h
  | dct =>
    obtain ⟨a, ob, rfl, h1, h2⟩ : ∃ a ob, v = V.ref a /\ H a = some (.frz ob (.own 0)) /\ ob.cls = .type "dict" := by unfold Is at i; exact i
    cases (show u = Value.ref a from r)
    exact PySem.W.kia_one PySem.W.kitx_dict I.kIn ⟨ob, (I.hok a _ h1).1, h2⟩ e (fun z => nomatch z) h
  | exc c => simp [D.noX] at hnx
theorem z6c {y : Str} {py : Pos} {cv : Value} (f : String -> Bool) (ha : PD X a ga) (hm : X.mg "isinstance" = none) (hb : ∀ {E : Value -> Shared -> Prop} {pins σ H s} {Q : Value -> Shared -> Prop}, Inv X pins σ H s -> Q cv s -> wpAny (model X.prog X.w) X.A (eval (.Name y py) X.env) Q E s)
    (hk : ∀ d : D, d.noX = true -> PySem.W.kitOne X.K (.type d.ty) cv = some (f d.ty)) (hg : Gl X "isinstance" := by rfl)
    (he : starEach [a, .Name y py] X.env = (false, eval a X.env) :: (false, eval (.Name y py) X.env) :: [] := by rfl) (hpl : (backTo pos (starEach [.Name y py] X.env)).any (·.1) = false := by rfl) (he2 : starEach [.Name y py] X.env = [(false, eval (.Name y py) X.env)] := by rfl) :
    PD X (.Call (.Name "isinstance" p) [a, .Name y py] [] pos) (gIsi f ga) := by
  refine ⟨fun pins s σ H F Γ I fo rl hgg => ?_⟩
  refine wpAny_Call_Name_kw (z3p I hg hm (by decide +kernel : bootBuiltins "isinstance" = some (.builtin "isinstance")) ?_ (by decide) (by decide))
  refine PyProof.Rows.callWith_builtin1 ?_ (by rw [he, he2]) hpl
  rw [he]
  show wpAny _ _ (spliced ((false, eval a X.env) :: backTo pos [(false, eval (.Name y py) X.env)])) _ _ s
  refine Calls.spliced_cons (wpAny_mono (ha.run pins s σ H F Γ I fo rl (R.left hgg)) (fun u s1 ⟨d, v, H1, e1, I1, r1, S1, i1⟩ => ?_) fun _ _ x => x.bind _)
  show wpAny _ _ (spliced ((false, eval (.Name y py) X.env) :: backTo pos [])) _ _ s1
  refine Calls.spliced_cons (hb I1 (Calls.spliced_nil ?_))
  obtain ⟨hnx, e2⟩ := z9y (R.next hgg e1)
  exact y1u I1 hnx i1 r1 (hk d hnx) fun tk => Post.bind e1 S1 ⟨.bl (f d.ty), .bl (f d.ty), H1, e2, I1.tok _, rfl, .refl _, Is.bl_iff.mpr rfl⟩
theorem y2t {K : PySem.W.Frag} (d : D) (h : d.noX = true) : PySem.W.kitOne K (.type d.ty) (.type "int") = some (z3w d.ty) := by cases d <;> first | rfl | (simp [D.noX] at h)
theorem y1q {K : PySem.W.Frag} (d : D) (h : d.noX = true) : PySem.W.kitOne K (.type d.ty) (.type "bool") = some (z2n d.ty) := by cases d <;> first | rfl | (simp [D.noX] at h)
theorem y1p {K : PySem.W.Frag} (d : D) (h : d.noX = true) : PySem.W.kitOne K (.type d.ty) (.type "list") = some (z2m d.ty) := by cases d <;> first | rfl | (simp [D.noX] at h)
end
theorem FnF.mono {P : Program} {w : World} {K : PySem.W.Frag} {mg : Str -> Option Value} {base : Heap} {j k : Nat} {f : Addr} {fd : FuncData} {ps : List Str} {φ : List D -> R (List D)} (F : FnF P w K mg base j f fd ps φ) (h : j <= k) : FnF P w K mg base k f fd ps φ := ⟨F.ok.mono h, F.binds, F.kp⟩
noncomputable def spN (φ : List D -> R D) (K : PySem.W.Frag) : Sp := fun vs H Q _ => ∃ ds d, IsAll K H ds vs /\ φ ds = .ok d /\ (∀ v H', Same H H' -> Is K H' d v -> Q v H')
theorem y0h {φ : List D -> R D} {K : PySem.W.Frag} {mg : Str -> Option Value} {vs : List V} {H : Hp} {Q : VK} {E : XK} (h : spN φ K vs H Q E) : spD K mg φ vs H Q E := by
  obtain ⟨ds, d, i, e, q⟩ := h
  exact ⟨ds, i, (by rw [e]; exact (fun z => nomatch z)), (fun d' v H' e' S iv => by rw [e] at e'; cases e'; exact q v H' S iv), (fun c C H' e' => by rw [e] at e'; cases e')⟩
theorem FnD.okN {P : Program} {w : World} {K : PySem.W.Frag} {mg : Str -> Option Value} {base : Heap} {k : Nat} {f : Addr} {fd : FuncData} {ps : List Str} {φ : List D -> R D} (F : FnD P w K mg base k f fd ps φ) : FnOk P w K mg base (CXE P w) k f fd ps (spN φ K) :=
  F.ok.imp fun _ _ _ _ h => y0h h
theorem law_true {c : List D -> R D} (hc : ∀ ns : List Int, ns.length <= 63 -> c [.lst (ns.map D.int)] = .ok (.bl true)) {K : PySem.W.Frag} {H : Hp} {a : Addr} {ns : List Int} (hl : ns.length <= 63) (hS : SqL K H a (ns.map V.int)) : spN c K [.ref a] H (fun v _ => v = .bl true) fun _ _ _ => False :=
  ⟨[.lst (ns.map D.int)], .bl true, IsAll.cons (Is.lst_iff.mpr ⟨a, _, rfl, hS, IsAll.ints ns⟩) IsAll.nil, hc ns hl, fun v H' _ iv => Is.bl_iff.mp iv⟩
theorem cxe_false {P : Program} {w : World} {H : Hp} {s : Shared} {e : Value} {s' : Shared} (h : CXE P w [] H s (fun _ _ _ => False) e s') : False := by
  obtain ⟨_, _, _, _, _, _, _, _, _, _, _, _, _, _, _, _, _, _, _, _, _, _, _, _, _, _, z⟩ := h
  exact z
theorem walk_ofL {l : PySem.W.OpenLaw} {n k : Nat} {q : Program} {loose : List Str} {XP : (Str -> Option Value) -> Heap -> Prop} {YP : World -> Heap -> Prop} {d : DefRec} {K : Params -> PySem.W.Frag} {CX : World -> CXT} (sp : PySem.W.Frag -> Sp) {x : Str}
    (hn : l.most = some n) (hn2 : n <= sizeLine) (hdf : d.params.defaults = []) (hr : Room k callerA)
    (hY : ∀ (w : World) (h : Heap), YP w h -> (K w.params).In h)
    (F : ∀ (w : World) (mg : Str -> Option Value) (fa : Addr) (h : Heap), (K w.params).In h -> h.Ns mainGlobals mg -> mg d.name = some (.ref fa) ->
      ∃ fd : FuncData, (∀ (s : Shared) (u : Value), BindsTo s fd ⟨[u], []⟩ [(x, u)]) /\
        ∀ base : Heap, (K w.params).In base -> base.Ns mainGlobals mg -> FnOk l.prog w (K w.params) mg base (CX w) k fa fd [x] (sp (K w.params)))
    (hsp : ∀ (K : PySem.W.Frag) (H : Hp) (a : Addr) (ns : List Int), ns.length <= n -> SqL K H a (ns.map V.int) -> sp K [.ref a] H (fun v _ => v = .bl true) fun _ _ _ => False)
    (hCX : ∀ (w : World) (H : Hp) (s : Shared) (e : Value) (s' : Shared), CX w [] H s (fun _ _ _ => False) e s' -> False) :
    PySem.W.WalkO q loose XP YP l.row.toRowW d [] (fun f vs => PySem.call f vs) :=
  walk_of (K := K) (CX := CX) (sp := fun w => sp (K w.params)) hn hn2 hdf hr hY F (fun w H a ns h1 _ h3 => hsp (K w.params) H a ns h1 h3) hCX
section
variable {X : Cx} {tg a b c : Expr} {ga gb gc : G -> R D}
end
section
variable {prog : Program} {w : World} {A : Around} {E : Value -> Shared -> Prop} {s : Shared}
end
section
variable {X : Cx} {e a b c : Expr} {g ga gb gc : G -> R D} {lo hi : Option Expr} {gl gh : G -> R (Option Int)} {pos p2 : Pos}
structure POD (X : Cx) (e : Option Expr) (g : G -> R (Option Int)) : Prop where
  run : ∀ (pins : List (Addr × Obj)) (s : Shared) (σ : St) (H : Hp) (F : List Addr) (Γ : G), Inv X pins σ H s -> FOk H F -> Rel X.K H F Γ σ -> g Γ ≠ .no ->
    wpAny (model X.prog X.w) X.A (evalPart e X.env) (fun u s' => ∃ o H', g Γ = .ok o /\ Inv X pins σ H' s' /\ IsPart u o /\ Same H H') (z0g X pins σ H (g Γ)) s
theorem podN : POD X none gON := ⟨fun pins s σ H F Γ I fo rl hg => by
  rw [evalPart_none]
  exact wpAny_pure ⟨none, H, rfl, I, .none, .refl _⟩⟩
theorem podS (h : PD X e g) : POD X (some e) (gOS g) := ⟨fun pins s σ H F Γ I fo rl hg => by
  rw [evalPart_some]
  refine wpAny_mono (h.run pins s σ H F Γ I fo rl (R.left hg)) (fun u s1 ⟨d, x, H1, e1, I1, r1, S1, i1⟩ => ?_) fun _ _ x => x.bind _
  have hg1 := R.next hg e1
  cases d with
  | int i =>
    rw [Is.int_iff.mp i1] at r1
    obtain ⟨t, rfl⟩ := (show ∃ t, u = Value.int i t from r1)
    exact ⟨some i, H1, R.step e1 _, I1, .int i t, S1⟩
  | _ => exact absurd rfl hg1⟩
theorem IsAll.cut {K : PySem.W.Frag} {H : Hp} {ds : List D} {xs : List V} (h : IsAll K H ds xs) (lo hi : Option Int) : IsAll K H (cutL ds lo hi) (cutV xs lo hi) := by
  have hl := h.length
  unfold cutL cutV
  rw [hl]
  exact (h.drop _).take _
theorem y0i {r : V -> Option Int -> Option Int -> Hp -> VK -> Prop} (hr : SlR X.nox r) (ha : PD X a ga) (hl : POD X lo gl) (hh : POD X hi gh) {pins : List (Addr × Obj)} {s : Shared} {σ : St} {H : Hp} {F : List Addr} {Γ : G} (I : Inv X pins σ H s) (fo : FOk H F) (rl : Rel X.K H F Γ σ)
    {α : Type} {rr : R α} {k : D -> Option Int -> Option Int -> R α} (hrr : rr = (ga Γ >>= fun d => gl Γ >>= fun l => gh Γ >>= fun h => k d l h)) (hg : rr ≠ .no) {Q : Value -> Shared -> Prop}
    (hq : ∀ d x l h H3, k d l h ≠ .no -> rr = k d l h -> Same H H3 -> Is X.K H3 d x -> FOk H3 F -> Rel X.K H3 F Γ σ -> r x l h H3 fun z H' => ∀ u s', Inv X pins σ H' s' -> RelV z u -> Q u s') :
    wpAny (model X.prog X.w) X.A (eval (.Subscript a (.Slice lo hi none p2) pos) X.env) Q (z0g X pins σ H rr) s := by
  subst hrr
  refine Subscript_ (wpAny_mono (ha.run pins s σ H F Γ I fo rl (R.left hg)) (fun v s1 ⟨d, x, H1, e1, I1, r1, S1, i1⟩ => ?_) fun _ _ x => x.bind _)
  have hg1 := R.next hg e1
  refine wpAny_Slice (wpAny_mono (hl.run pins s1 σ H1 F Γ I1 (fo.same S1) (rl.same S1) (R.left hg1)) (fun vl s2 ⟨l, H2, e2, I2, pl, S2⟩ => ?_) fun _ _ x => z0g.later e1 S1 (x.bind _))
  have hg2 := R.next hg1 e2
  refine wpAny_mono (hh.run pins s2 σ H2 F Γ I2 ((fo.same S1).same S2) ((rl.same S1).same S2) (R.left hg2)) (fun vu s3 ⟨h, H3, e3, I3, pu, S3⟩ => ?_) fun _ _ x => z0g.later e1 S1 (z0g.later e2 S2 (x.bind _))
  have hg3 := R.next hg2 e3
  have S03 := (S1.trans S2).trans S3
  rw [evalPart_none]
  refine wpAny_pure ?_
  have I4 : Inv X pins σ H3 { s3 with heap := s3.heap.push { cls := .type "slice", data := .fields #[vl, vu, .none] } } := I3.kept (t' := s3.toks) fun b ob q => Heap.get?_push_of_some _ q
  obtain ⟨T, id, hT, ht, hgi⟩ := hr pins { s3 with heap := s3.heap.push { cls := .type "slice", data := .fields #[vl, vu, .none] } } σ H3 x v vl vu l h s3.heap.objs.size _ (I4.wish _) r1 (Heap.IsSliceOf.new ..) pl pu (hq d x l h H3 hg3 ((R.step e1 _).trans ((R.step e2 _).trans (R.step e3 _))) S03 ((i1.same S2).same S3) (fo.same S03) (rl.same S03))
  show wpAny (model X.prog X.w) X.A (subscriptTail a (.Slice lo hi none p2) v (.ref s3.heap.objs.size)) _ _ { s3 with heap := s3.heap.push { cls := .type "slice", data := .fields #[vl, vu, .none] } }
  refine tail_any (ops := [.ref s3.heap.objs.size, v]) ht hT (wpAny_mono hgi (fun u s5 ⟨z, H5, I5, rz, q5⟩ => q5 u s5 I5.unwish rz) fun _ _ z => False.elim z) (by with_unfolding_all rfl)
theorem y2i (ha : PD X a ga) (hl : POD X lo gl) (hh : POD X hi gh) : PF X (.Subscript a (.Slice lo hi none p2) pos) (gSlF ga gl gh) := ⟨fun pins s σ H F Γ I fo rl hg =>
  y0i z8o ha hl hh I fo rl (k := z7q) rfl hg fun d x l h H3 hk er S i fo3 rl3 => by
    cases d with
    | lst ds =>
      obtain ⟨p, xs, rfl, h1, h2⟩ := Is.lst_iff.mp i
      refine ⟨p, xs, rfl, h1, fun q hq u s' I' rz => ?_⟩
      have S2 := z2b hq (.lst (cutV xs l h))
      obtain ⟨hn, e5⟩ := R.guard_ne (show R.guard (D.noLs (cutL ds l h) = true) (R.ok (cutL ds l h)) ≠ R.no from hk)
      exact ⟨cutL ds l h, q, cutV xs l h, _, er.trans e5, I', rz, S.trans S2, S.free hq, z0p, IsAll.hid ((fo3.same S2).cons z0p) _ _ hn ((h2.cut l h).same S2)⟩
    | _ => exact absurd rfl hk⟩
end
section
variable {prog : Program} {w : World} {A : Around} {E : Value -> Shared -> Prop} {s : Shared}
end
section
variable {X : Cx} {e : Expr} {g : G -> R D} {pos pt : Pos}
end
noncomputable def bmV : List Value := [.type "ValueError", .type "Exception", .type "BaseException", .type "object"]
structure XOk (K : PySem.W.Frag) (mg : Str -> Option Value) (c : Er) (C : Addr) : Prop where
  ns : PySem.W.nsIn K mainGlobals c.nm = some (some (.ref C))
  mg : mg c.nm = some (.ref C)
  ex : PySem.W.excIn K C bmV "ValueError.__new__" = true
section
variable {X : Cx} {e : Expr} {g : G -> R D} {pos np cpos : Pos}
end
section
variable {K : PySem.W.Frag} {M : Model} {A : Around} {E : Value -> Shared -> Prop} {s : Shared}
end
structure XCls (K : PySem.W.Frag) (C : Addr) : Prop where
  ga : PySem.W.findIn K (.ref C) "__getattribute__" = some (some (.builtin "BaseException.__getattribute__"))
  gn : PySem.W.findIn K (.ref C) "__getattr__" = some none
  cl : PySem.W.findIn K (.ref C) "__class__" = some (some (.builtin "object.__class__"))
  mo : PySem.W.mroIn K C (.type "object") = some true
  mb : PySem.W.mroIn K C (.type "BaseException") = some true
  ty : PySem.W.typeIn K (.ref C) = some (.type "type")
  is : (PySem.W.clsIn K C).isSome = true
section
variable {K : PySem.W.Frag} {prog : Program} {w : World} {A : Around} {E : Value -> Shared -> Prop} {s : Shared} {a C : Addr} {o : Obj}
end
section
variable {X : Cx} {pos p pn : Pos}
structure PCl (X : Cx) (es : List Expr) (vs : List Value) : Prop where
  run : ∀ {E : Value -> Shared -> Prop} {pos : Pos} {pins : List (Addr × Obj)} {σ : St} {H : Hp} {s : Shared} {Q : List Value -> Shared -> Prop}, Inv X pins σ H s -> Q vs s -> wpAny (model X.prog X.w) X.A (spliced (backTo pos (starEach es X.env))) Q E s
end
section
variable {X : Cx} {pos np hpos : Pos}
structure ErrOk (X : Cx) (B : Addr) : Prop where
  cl : XCls X.K B
  ns : ∀ (c : Er) (C : Addr), X.mg c.nm = some (.ref C) -> PySem.W.nsIn X.K mainGlobals c.nm = some (some (.ref C)) /\ PySem.W.mroIn X.K C (.ref B) = some true
end
section
variable {X : Cx} {pos p pn : Pos}
end
section
variable {X : Cx} {e a b c : Expr} {g ga gb gc : G -> R D} {pos pos' : Pos} {es : List Expr} {gs : G -> R (List D)}
end
section
variable {P : Program} {w : World} {K : PySem.W.Frag} {mg : Str -> Option Value} {base : Heap}
end
section
variable {X : Cx} {e a b c : Expr} {g ga gb gc : G -> R D} {pos pos' p p2 : Pos} {es : List Expr} {gs : G -> R (List D)} {lo hi : Option Expr} {gl gh : G -> R (Option Int)}
end
section
variable {X : Cx} {e a b c : Expr} {g ga gb gc : G -> R D} {lo : Option Expr} {gl : G -> R (Option Int)} {pos p2 p3 : Pos}
end
section
variable {X : Cx}
end
section
variable {X : Cx} {e a b c : Expr} {g ga gb gc : G -> R D} {lo : Option Expr} {st : Expr} {gl gt : G -> R (Option Int)} {pos p2 p3 : Pos}
end
section
variable {X : Cx} {a b : Expr} {pos : Pos}
end
section
variable {X : Cx} {e a b c : Expr} {g ga gb gc : G -> R D} {pos pos' p p2 : Pos} {es : List Expr} {gs : G -> R (List D)}
end
section
variable {X : Cx} {e a b c : Expr} {g ga gb gc : G -> R D} {pos pos' p p2 : Pos} {es : List Expr} {gs : G -> R (List D)}
structure PADr (X : Cx) (es : List Expr) (g : G -> R (List D)) : Prop where
  run : ∀ (pos : Pos) (pins : List (Addr × Obj)) (s : Shared) (σ : St) (H : Hp) (F : List Addr) (Γ : G), Inv X pins σ H s -> FOk H F -> Rel X.K H F Γ σ -> g Γ ≠ .no ->
    wpAny (model X.prog X.w) X.A (spliced (backTo pos (starEach es X.env))) (fun us s' => ∃ ds vs H', g Γ = .ok ds /\ Inv X pins σ H' s' /\ Vals vs us /\ Same H H' /\ IsAll X.K (hid F H') ds vs) (z0g X pins σ H (g Γ)) s
end
structure CompOk2 (N : List Str) (env : Env) (x0 y : Str) (scope : Scope) : Prop where
  kind : scope.kind = .function
  nocell : ∀ p ∈ scope.names, p.2 ≠ .cell
  names : ∀ p ∈ scope.names, p.2 = .local -> scope.names.lookup p.1 = some .local
  free : ∀ p ∈ scope.names, p.2 = .free -> (∃ c, env.cells.lookup p.1 = some c) /\ (env.scope.names.lookup p.1 = some .cell ∨ env.scope.names.lookup p.1 = some .free)
  loc : scope.names.lookup x0 = some .local /\ scope.names.lookup y = some .local /\ x0 ≠ y /\ (x0 ∉ N ∨ y ∉ N)
  nil : scope.names.lookup (("" : Str)) = none
  only : ∀ z ∈ N, scope.names.lookup z = some .local -> z = x0 ∨ z = y
  none : (∀ z ∈ N, z ≠ ("" : Str)) ∨ (x0 ∉ N /\ y ∉ N)
noncomputable def z4m (X : Cx) (x0 y : Str) (scope : Scope) (C : Addr) (s₂ : Shared) (H₂ : Hp) (fp : List Addr) (pn : List (Addr × Obj)) : Cx :=
  { X with N := x0 :: y :: X.N.map (fun z => if z = x0 ∨ z = y then ("" : Str) else z), s₀ := s₂, H₀ := H₂, env := compEnvC scope (capt X.env scope.names []) C X.env, outer := X.stack, ex := fp, fn := fun _ => false, pn := pn, xe := fun _ _ => False }
section
variable {X : Cx} {x0 y : Str} {scope : Scope}
structure PC2 (X : Cx) (x0 y : Str) (scope : Scope) (ifs : List Expr) (elt : Expr) (f : D -> D -> G -> R (Option D)) : Prop where
  run : ∀ (C : Addr) (s₂ : Shared) (H₂ : Hp) (fp : List Addr) (pn : List (Addr × Obj)) (pins : List (Addr × Obj)) (s : Shared) (σ : St) (H : Hp) (F : List Addr) (Γ : G) (d d2 : D), Inv (z4m X x0 y scope C s₂ H₂ fp pn) pins σ H s -> FOk H F -> Rel X.K H F (.ro d :: .ro d2 :: Γ) σ -> (∃ o, f d d2 Γ = .ok o) ->
    wpAny (model X.prog X.w) X.A (forIn ifs true fun c r => if r = true then do let ok <- isTrue c (compEnvC scope (capt X.env scope.names []) C X.env) (eval c (compEnvC scope (capt X.env scope.names []) C X.env)); pure (ForInStep.yield ok) else pure (ForInStep.yield r)) (fun ok s₃ =>
      if ok = true then wpAny (model X.prog X.w) X.A (eval elt (compEnvC scope (capt X.env scope.names []) C X.env)) (fun u s₄ => ∃ e v H', f d d2 Γ = .ok (some e) /\ Inv (z4m X x0 y scope C s₂ H₂ fp pn) pins σ H' s₄ /\ RelV v u /\ Same H H' /\ Is X.K (hid F H') e v) (fun _ _ => False) s₃
      else f d d2 Γ = .ok none /\ ∃ H', Inv (z4m X x0 y scope C s₂ H₂ fp pn) pins σ H' s₃ /\ Same H H') (fun _ _ => False) s
end
section
variable {prog : Program} {w : World} {A : Around} {E : Value -> Shared -> Prop} {s : Shared}
noncomputable def SIt (b : Bool) (h : Heap) (it l : Addr) (i : Nat) : Prop := if b = true then h.IsListIter it l i else h.IsTupleIter it l i
theorem SIt.obj {b : Bool} {h : Heap} {it l : Addr} {i : Nat} (st : SIt b h it l i) : ∃ o vs, h.get? it = some o /\ o.data = .fields vs := by
  cases b
  · obtain ⟨o, e, c, d⟩ := (show h.IsTupleIter it l i from st); exact ⟨o, _, e, d⟩
  · obtain ⟨o, e, c, d⟩ := (show h.IsListIter it l i from st); exact ⟨o, _, e, d⟩
end
section
variable {prog : Program} {w : World} {A : Around} {E : Value -> Shared -> Prop} {s : Shared} {b1 b2 : Bool}
end
section
variable {prog : Program} {w : World} {A : Around} {E : Value -> Shared -> Prop} {s : Shared} {b1 b2 : Bool}
end
section
variable {X : Cx} {pins : List (Addr × Obj)} {σ : St} {H : Hp} {s : Shared} {h' : Heap}
noncomputable def Sq (b : Bool) (K : PySem.W.Frag) (H : Hp) (l : Addr) (xs : List V) : Prop := if b = true then SqL K H l xs else SqT K H l xs
theorem Sq.same {b : Bool} {K : PySem.W.Frag} {H H' : Hp} {l : Addr} {xs : List V} (h : Sq b K H l xs) (S : Same H H') : Sq b K H' l xs := by
  cases b
  · exact z1c S h
  · exact S.seq h
end
section
variable {X : Cx} {a b : Expr} {ga gb : G -> R D}
end
section
variable {X : Cx} {e a b c : Expr} {g ga gb gc : G -> R D} {pos : Pos}
end
section
variable {X : Cx} {a b : Expr} {ga gb : G -> R D}
end
section
variable {X : Cx} {e a b c : Expr} {g ga gb gc : G -> R D} {pos pos' p : Pos}
end
section
variable {X : Cx} {e a b c : Expr} {g ga gb gc : G -> R D} {pos pos' p : Pos} {gs : G -> R (List D)}
end
theorem Rel.frzAt {K : PySem.W.Frag} {H : Hp} {F : List Addr} {Γ : G} {σ : St} (fo : FOk H F) (r : Rel K H F Γ σ) (i : Nat) : ∃ F', (∀ b ∈ F', b ∈ F) /\ FOk H F' /\ Rel K H F' (L3.frzAt i Γ) σ := by
  unfold L3.frzAt
  split
  · rename_i ds e
    obtain ⟨a, xs, h1, h2, h3, h4⟩ := r.own i ds e
    have sub : ∀ b ∈ F.filter (fun b => decide (b ≠ a)), b ∈ F := fun b hb => (List.mem_filter.mp hb).1
    have out : a ∉ F.filter (fun b => decide (b ≠ a)) := fun z => (of_decide_eq_true (List.mem_filter.mp z).2) rfl
    have S : Same (hid F H) (hid (F.filter (fun b => decide (b ≠ a))) H) := fun b o h => by
      obtain ⟨z1, z2⟩ := z0z h
      rw [z0l fun z => z1 (sub b z)]
      exact z2
    have hi : i < Γ.length := by
      rcases Nat.lt_or_ge i Γ.length with z | z
      · exact z
      · rw [List.getElem?_eq_none z] at e; cases e
    refine ⟨F.filter (fun b => decide (b ≠ a)), sub, fun b hb => fo b (sub b hb), ⟨by rw [List.length_set]; exact r.len, fun j d h => ?_, fun j es h => ?_, fun j k es fs c g1 g2 g3 g4 => ?_⟩⟩
    · by_cases hj : i = j
      · subst hj
        rw [List.getElem?_set_self hi] at h
        cases h
        exact ⟨.ref a, h1, Is.lst_iff.mpr ⟨a, xs, rfl, SqL.of (by rw [z0l out]; exact h3), h4.same S⟩⟩
      · rw [List.getElem?_set_ne hj] at h
        obtain ⟨v, q1, q2⟩ := r.ro j d h
        exact ⟨v, q1, q2.same S⟩
    · by_cases hj : i = j
      · subst hj
        rw [List.getElem?_set_self hi] at h
        cases h
      · rw [List.getElem?_set_ne hj] at h
        obtain ⟨c, ys, q1, q2, q3, q4⟩ := r.own j es h
        refine ⟨c, ys, q1, List.mem_filter.mpr ⟨q2, decide_eq_true fun z => ?_⟩, q3, q4.same S⟩
        subst z
        exact hj (r.inj i j ds es c e h h1 q1)
    · have back : ∀ (m : Nat) (es : List D), (Γ.set i (.ro (.lst ds)))[m]? = some (.own es) -> Γ[m]? = some (.own es) := fun m es h => by
        by_cases hm : i = m
        · subst hm
          rw [List.getElem?_set_self hi] at h
          cases h
        · rw [List.getElem?_set_ne hm] at h; exact h
      exact r.inj j k es fs c (back j es g1) (back k fs g2) g3 g4
  · exact ⟨F, fun _ h => h, fo, r⟩
theorem y0k {X : Cx} (i : Nat) {st : Stmt} {g : G -> R Fl} (h : PQ X st g) : PQ X st (gFrz i g) := by
  refine ⟨fun pins s σ H F Γ I fo rl hg => ?_⟩
  obtain ⟨F', sub, fo', rl'⟩ := rl.frzAt fo i
  have E : Ext H F H F' := ⟨fun b o _ q => q, fun b hb => .inl (sub b hb)⟩
  exact wpAny_mono (h.run pins s σ H F' _ I fo' rl' hg) (fun _ _ q => FlP.later E q) fun _ _ q => FlX.later E q
noncomputable def z9d (y : Str) (names : List (Str × NameKind)) : Bool := decide (names.filter (fun p => p.2 == .cell) = [(y, .cell)])
structure CompOkC (N : List Str) (env : Env) (y : Str) (scope : Scope) : Prop where
  kind : scope.kind = .function
  nocell : ∀ p ∈ scope.names, p.2 ≠ .cell ∨ p.1 = y
  names : ∀ p ∈ scope.names, p.2 = .local -> scope.names.lookup p.1 = some .local
  free : ∀ p ∈ scope.names, p.2 = .free -> (∃ c, env.cells.lookup p.1 = some c) /\ (env.scope.names.lookup p.1 = some .cell ∨ env.scope.names.lookup p.1 = some .free)
  loc : z9d y scope.names = true /\ scope.names.lookup y = some .cell
  nil : scope.names.lookup (("" : Str)) = none
  only : ∀ z ∈ N, scope.names.lookup z ≠ some .local
  none : ∀ z ∈ N, z ≠ ("" : Str)
noncomputable def z4l (X : Cx) (y : Str) (scope : Scope) (C cc : Addr) (s₂ : Shared) (H₂ : Hp) (fp : List Addr) (pn : List (Addr × Obj)) : Cx :=
  { X with N := y :: X.N.map (fun z => if z = y then ("" : Str) else z), s₀ := s₂, H₀ := H₂, env := compEnvC scope ((y, cc) :: capt X.env scope.names []) C X.env, outer := X.stack, ex := fp, fn := fun z => z == y, pn := pn, xe := fun _ _ => False }
section
variable {X : Cx} {y : Str} {scope : Scope}
structure PC1C (X : Cx) (y : Str) (scope : Scope) (ifs : List Expr) (elt : Expr) (f : D -> G -> R (Option D)) : Prop where
  run : ∀ (C cc : Addr) (s₂ : Shared) (H₂ : Hp) (fp : List Addr) (pn : List (Addr × Obj)) (pins : List (Addr × Obj)) (s : Shared) (σ : St) (H : Hp) (F : List Addr) (Γ : G) (d : D), Inv (z4l X y scope C cc s₂ H₂ fp pn) pins σ H s -> FOk H F -> Rel X.K H F (.ro d :: Γ) σ -> (∃ o, f d Γ = .ok o) ->
    wpAny (model X.prog X.w) X.A (forIn ifs true fun c r => if r = true then do let ok <- isTrue c (compEnvC scope ((y, cc) :: capt X.env scope.names []) C X.env) (eval c (compEnvC scope ((y, cc) :: capt X.env scope.names []) C X.env)); pure (ForInStep.yield ok) else pure (ForInStep.yield r)) (fun ok s₃ =>
      if ok = true then wpAny (model X.prog X.w) X.A (eval elt (compEnvC scope ((y, cc) :: capt X.env scope.names []) C X.env)) (fun u s₄ => ∃ e v H', f d Γ = .ok (some e) /\ Inv (z4l X y scope C cc s₂ H₂ fp pn) pins σ H' s₄ /\ RelV v u /\ Same H H' /\ Is X.K (hid F H') e v) (fun _ _ => False) s₃
      else f d Γ = .ok none /\ ∃ H', Inv (z4l X y scope C cc s₂ H₂ fp pn) pins σ H' s₃ /\ Same H H') (fun _ _ => False) s
end
section
variable {X : Cx} {e : Expr} {pos p : Pos} {x : Str} {es : List Expr} {gs : G -> R (List D)}
end
section
variable {M : Model} {A : Around} {E : Value -> Shared -> Prop} {env : Env} {s : Shared}
end
section
variable {X : Cx} {y : Str} {scope : Scope}
structure PC1X (X : Cx) (y : Str) (scope : Scope) (ifs : List Expr) (elt : Expr) (f : D -> G -> R (Option D)) : Prop where
  run : ∀ (C : Addr) (s₂ : Shared) (H₂ : Hp) (fp : List Addr) (pn : List (Addr × Obj)), (∀ b ∈ fp, ∃ o, (b, o) ∈ pn) -> ∀ (pins : List (Addr × Obj)) (s : Shared) (σ : St) (H : Hp) (F : List Addr) (Γ : G) (d : D), Inv (z1y X y scope C s₂ H₂ fp pn) pins σ H s -> FOk H F -> Rel X.K H F (.ro d :: Γ) σ -> f d Γ ≠ .no ->
    wpAny (model X.prog X.w) X.A (forIn ifs true fun c r => if r = true then do let ok <- isTrue c (compEnvC scope (capt X.env scope.names []) C X.env) (eval c (compEnvC scope (capt X.env scope.names []) C X.env)); pure (ForInStep.yield ok) else pure (ForInStep.yield r)) (fun ok s₃ =>
      if ok = true then wpAny (model X.prog X.w) X.A (eval elt (compEnvC scope (capt X.env scope.names []) C X.env)) (fun u s₄ => ∃ e v H', f d Γ = .ok (some e) /\ Inv (z1y X y scope C s₂ H₂ fp pn) pins σ H' s₄ /\ RelV v u /\ Same H H' /\ Is X.K (hid F H') e v) (fun x s' => ∃ c H', f d Γ = .er c /\ Same H H' /\ z4e (z1y X y scope C s₂ H₂ fp pn) pins σ H' c x s') s₃
      else f d Γ = .ok none /\ ∃ H', Inv (z1y X y scope C s₂ H₂ fp pn) pins σ H' s₃ /\ Same H H') (fun x s' => ∃ c H', f d Γ = .er c /\ Same H H' /\ z4e (z1y X y scope C s₂ H₂ fp pn) pins σ H' c x s') s
end
section
variable {X : Cx} {e a b c : Expr} {g ga gb gc : G -> R D} {pos p : Pos} {x : Str} {es : List Expr} {gs : G -> R (List D)}
end
section
variable {X : Cx} {e : Expr} {g : G -> R D} {pos p pos' : Pos}
end
section
variable {X : Cx} {e a b c : Expr} {g ga gb gc : G -> R D} {pos : Pos}
end
namespace Rv
end Rv
section
variable {prog : Program} {w : World} {A : Around} {E : Value -> Shared -> Prop} {s : Shared}
end
section
variable {X : Cx} {a : Expr} {ga : G -> R D}
end
section
variable {X : Cx} {e : Expr} {pos p : Pos} {x : Str} {es : List Expr} {gs : G -> R (List D)}
end
section
variable {X : Cx} {e : Expr} {g : G -> R D} {pos pt : Pos}
end
section
variable {prog : Program} {w : World} {A : Around} {E : Value -> Shared -> Prop} {s : Shared}
end
section
variable {X : Cx} {a : Expr} {ga : G -> R D} {st : Expr} {gt : G -> R (Option Int)} {pos p2 : Pos}
end
section
variable {X : Cx} {e a b c : Expr} {g ga gb gc : G -> R D} {pos : Pos}
end
theorem vals_ints : ∀ {ns : List Int} {us : List Value}, IntsAre us ns -> Vals (ns.map V.int) us
  | _, _, .nil => .nil
  | _, _, .cons n t h => .cons ⟨t, rfl⟩ (vals_ints h)
section
variable {X : Cx} {e a b c : Expr} {g ga gb gc : G -> R D} {pos : Pos}
end
section
variable {X : Cx}
end
section
variable {prog : Program} {w : World} {A : Around} {E : Value -> Shared -> Prop} {s : Shared}
end
section
variable {X : Cx} {a b : Expr} {ga gb : G -> R D}
end
section
variable {X : Cx} {e a b c : Expr} {g ga gb gc : G -> R D} {gs : G -> R (List D)} {pos pos' p : Pos}
end
end L3
namespace Row
open PySem PySem.Spec PyProof.Rows L2 L3
noncomputable def top (i : Nat) : Stmt := PySem.Challenge.pw_longrounds_k61_primes_of_numbers.main.body.getD i (.Pass ⟨0, 0, 0, 0⟩)
noncomputable abbrev s_f : Stmt := top 6
theorem sc_f : FnScope ["script", "k"] ["script", "k"] (z0b s_f) := ⟨rfl, rfl, rfl, by decide +kernel, rfl, by decide +kernel, by decide +kernel⟩
noncomputable abbrev s_a : Stmt := top 8
theorem sc_a : FnScope ["n", "by"] ["n"] (z0b s_a) := ⟨rfl, rfl, rfl, by decide +kernel, rfl, by decide +kernel, by decide +kernel⟩
noncomputable abbrev s_d : Stmt := top 7
theorem sc_d : FnScope ["found"] ["found"] (z0b s_d) := ⟨rfl, rfl, rfl, by decide +kernel, rfl, by decide +kernel, by decide +kernel⟩
noncomputable abbrev s_c : Stmt := top 1
theorem sc_c : FnScope ["n", "divisor"] ["n"] (z0b s_c) := ⟨rfl, rfl, rfl, by decide +kernel, rfl, by decide +kernel, by decide +kernel⟩
noncomputable abbrev s_b : Stmt := top 3
theorem sc_b : FnScope ["n", "divisor"] ["n", "divisor"] (z0b s_b) := ⟨rfl, rfl, rfl, by decide +kernel, rfl, by decide +kernel, by decide +kernel⟩
noncomputable abbrev s_e : Stmt := top 4
theorem sc_e : FnScope ["n", "primes"] ["n"] (z0b s_e) := ⟨rfl, rfl, rfl, by decide +kernel, rfl, by decide +kernel, by decide +kernel⟩
noncomputable abbrev s_g : Stmt := top 9
theorem sc_g : FnScope ["n", "found", "last", "q"] ["n"] (z0b s_g) := ⟨rfl, rfl, rfl, by decide +kernel, rfl, by decide +kernel, by decide +kernel⟩
noncomputable abbrev z3a : Stmt := top 10
theorem z7v : FnScope ["script", "cell", "great", "by"] ["script"] (z0b z3a) := ⟨rfl, rfl, rfl, by decide +kernel, rfl, by decide +kernel, by decide +kernel⟩
section
variable {P : Program} {w : World} {K : PySem.W.Frag} {mg : Str -> Option Value} {base : Heap}
theorem f_f {f : Addr} {fd : FuncData} (Fu : Fun K "_law_cell" "_law_cell" s_f f fd) (hb : z1l K fd ["script", "k"] [])
    (m_len : mg "len" = none)
    : FnD P w K mg base 1 f fd ["script", "k"] c_f := by
  refine z2l Fu sc_f hb (fun ds h => z0m h) fun cdv A outer s H E hr => ?_
  have nd := sc_f.nd
  have hu := hr.units
  refine ⟨g_f, ?_, fun ds hne => (z1w (z0m hne)).symm⟩
  exact (z0c (z3i (z0s y2o (z0a 1) (z7h y1z m_len (by decide +kernel) (z0i (z0a 0) z0t)) (z0y _)) (z0d (z0w (y0r (z0a 0) (z0a 1)))) z1d)
    (z0d (z0w z0e)))
theorem f_a {f : Addr} {fd : FuncData} (Fu : Fun K "_law_is_prime" "_law_is_prime" s_a f fd) (hb : z1l K fd ["n"] [])
    : FnD P w K mg base 1 f fd ["n"] z0j := by
  refine z2l Fu sc_a hb (fun ds h => z0m h) fun cdv A outer s H E hr => ?_
  have nd := sc_a.nd
  have hu := hr.units
  refine ⟨z0q, ?_, fun ds hne => (z1w (z0m hne)).symm⟩
  exact (z0c (z0x 1 (PD.ro z0e) nd)
    (z0c (z1o 10001 z1e (z0s z9e (z0v z6e (z0a 1) (z0a 1)) (z0a 0) (z0y _)) (z0c (z3i (z0s (z5m hu) (z0v z1p (z0a 0) (z0a 1)) z0e (z0y _)) (z0d (z0w z5k)) z1d)
    (z0d (z0x 1 (PD.ro (z0v z3l (z0a 1) z0e)) nd))))
    (z0d (z0w (z7z y0y (z0a 0) z0e (z0y _))))))
theorem f_d {f : Addr} {fd : FuncData} (Fu : Fun K "_law_whole" "_law_whole" s_d f fd) (hb : z1l K fd ["found"] [])
    (m_bool : mg "bool" = none)
    (m_int : mg "int" = none)
    (m_isinstance : mg "isinstance" = none)
    : FnD P w K mg base 1 f fd ["found"] c_d := by
  refine z2l Fu sc_d hb (fun ds h => z0m h) fun cdv A outer s H E hr => ?_
  have nd := sc_d.nd
  have hu := hr.units
  refine ⟨g_d, ?_, fun ds hne => (z1w (z0m hne)).symm⟩
  exact (z0d (z0w (y0s (z6c z3w (z0a 0) m_isinstance (fun I q => z3p I rfl m_int (by decide +kernel) q) y2t) (y0o (y0p (z6c z2n (z0a 0) m_isinstance (fun I q => z3p I rfl m_bool (by decide +kernel) q) y1q))))))
theorem f_c {f : Addr} {fd : FuncData} (Fu : Fun K "least_divisor" "least_divisor" s_c f fd) (hb : z1l K fd ["n"] [])
    : FnD P w K mg base 1 f fd ["n"] c_c := by
  refine z2l Fu sc_c hb (fun ds h => z0m h) fun cdv A outer s H E hr => ?_
  have nd := sc_c.nd
  have hu := hr.units
  refine ⟨g_c, ?_, fun ds hne => (z1w (z0m hne)).symm⟩
  exact (z0c (z0x 1 (PD.ro z0e) nd)
    (z0c (z1o 10000 z1e (z0s z9e (z0v z6e (z0a 1) (z0a 1)) (z0a 0) (z0y _)) (z0c (z3i (z0s (z5m hu) (z0v z1p (z0a 0) (z0a 1)) z0e (z0y _)) (z0d (z0w (z0a 1))) z1d)
    (z0d (z0x 1 (PD.ro (z0v z3l (z0a 1) z0e)) nd))))
    (z0d (z0w (z0a 0)))))
theorem f_b {f : Addr} {fd : FuncData} (Fu : Fun K "without_prime" "without_prime" s_b f fd) (hb : z1l K fd ["n", "divisor"] [])
    : FnD P w K mg base 1 f fd ["n", "divisor"] c_b := by
  refine z2l Fu sc_b hb (fun ds h => z0m h) fun cdv A outer s H E hr => ?_
  have nd := sc_b.nd
  have hu := hr.units
  refine ⟨g_b, ?_, fun ds hne => (z1w (z0m hne)).symm⟩
  exact (z0c (z1o 100 z1e (z0s (z5m hu) (z0v z1p (z0a 0) (z0a 1)) z0e (z0y _)) (z0d (z0x 0 (PD.ro (z0v z4s (z0a 0) (z0a 1))) nd)))
    (z0d (z0w (z0a 0))))
theorem f_e {f : Addr} {fd : FuncData} (Fu : Fun K "primes_of" "primes_of" s_e f fd) (hb : z1l K fd ["n"] [])
    {a_c : Addr} {d_c : FuncData} (G_c : FnD P w K mg base 1 a_c d_c ["n"] c_c) (m_c : mg "least_divisor" = some (.ref a_c))
    {a_b : Addr} {d_b : FuncData} (G_b : FnD P w K mg base 1 a_b d_b ["n", "divisor"] c_b) (m_b : mg "without_prime" = some (.ref a_b))
    : FnF P w K mg base 2 f fd ["n"] c_e := by
  have F_c := G_c.mono (k := 1) (by omega)
  have F_b := G_b.mono (k := 1) (by omega)
  refine y1y Fu sc_e hb (fun ds h => z6v h) fun cdv A outer s H E hr => ?_
  have nd := sc_e.nd
  have hu := hr.units
  refine ⟨g_e, ?_, fun ds hne => (z8i (z6v hne)).symm⟩
  exact (z0c (z5x 1 (z7y z0t) nd)
    (z0c (z1o 100 z1e (z0s y0y (z0a 0) z0e (z0y _)) (z0c (z5z 1 (PD.ro (z1i F_c hr m_c (z0i (z0a 0) z0t))))
    (z0d (z0x 0 (PD.ro (z1i F_b hr m_b (z0i (z0a 0) (z0i (y0r (z0a 1) (y0q z0e)) z0t)))) nd))))
    (z0d (z8u 1))))
theorem f_g {f : Addr} {fd : FuncData} (Fu : Fun K "_law_good" "_law_good" s_g f fd) (hb : z1l K fd ["n"] [])
    {a_a : Addr} {d_a : FuncData} (G_a : FnD P w K mg base 1 a_a d_a ["n"] z0j) (m_a : mg "_law_is_prime" = some (.ref a_a))
    {a_d : Addr} {d_d : FuncData} (G_d : FnD P w K mg base 1 a_d d_d ["found"] c_d) (m_d : mg "_law_whole" = some (.ref a_d))
    (m_isinstance : mg "isinstance" = none)
    (m_list : mg "list" = none)
    {a_e : Addr} {d_e : FuncData} (G_e : FnF P w K mg base 2 a_e d_e ["n"] c_e) (m_e : mg "primes_of" = some (.ref a_e))
    : FnD P w K mg base 3 f fd ["n"] c_g := by
  have F_a := G_a.mono (k := 2) (by omega)
  have F_d := G_d.mono (k := 2) (by omega)
  have F_e := G_e.mono (k := 2) (by omega)
  refine z2l Fu sc_g hb (fun ds h => z0m h) fun cdv A outer s H E hr => ?_
  have nd := sc_g.nd
  have hu := hr.units
  refine ⟨g_g, ?_, fun ds hne => (z1w (z0m hne)).symm⟩
  exact (z0c (z5x 1 (z8x F_e hr m_e (z0i (z0a 0) z0t)) nd)
    (z0c (z3i (z2g (z2f (z6c z2m (z0a 1) m_isinstance (fun I q => z3p I rfl m_list (by decide +kernel) q) y1p))) (z0d (z0w z5k)) z1d)
    (z0c (z0x 2 (PD.ro z0e) nd)
    (z0c (y0k 1 (z5y 3 z1e rfl (z4f (z8y 1))
    (z0c (z3i (PWD.pt (z5w (z2g (z2f (z1i F_d hr m_d (z0i (z0a 3) z0t)))) (z5w (z0s z9e (z0a 3) (z0a 2) (z0y _)) (z5w (z0s (y2n hu) (z0v z1p (z0a 0) (z0a 3)) z0e (z0y _)) (z8t (z2g (z2f (z1i F_a hr m_a (z0i (z0a 3) z0t))))))))) (z0d (z0w z5k)) z1d)
    (z0c (z1o 100 z1e (z0s (z5m hu) (z0v z1p (z0a 0) (z0a 3)) z0e (z0y _)) (z0d (z0x 0 (PD.ro (z0v z4s (z0a 0) (z0a 3))) nd)))
    (z0d (z0x 2 (PD.ro (z0a 3)) nd)))) nd))
    (z0d (z0w (z7z (z5m hu) (z0a 0) z0e (z0y _))))))))
theorem y2v {f : Addr} {fd : FuncData} (Fu : Fun K "law" "law" z3a f fd) (hb : z1l K fd ["script"] [])
    {a_f : Addr} {d_f : FuncData} (G_f : FnD P w K mg base 1 a_f d_f ["script", "k"] c_f) (m_f : mg "_law_cell" = some (.ref a_f))
    {a_g : Addr} {d_g : FuncData} (G_g : FnD P w K mg base 3 a_g d_g ["n"] c_g) (m_g : mg "_law_good" = some (.ref a_g))
    : FnD P w K mg base 4 f fd ["script"] c_law := by
  have F_f := G_f.mono (k := 3) (by omega)
  have F_g := G_g.mono (k := 3) (by omega)
  refine z2l Fu z7v hb (fun ds h => z0m h) fun cdv A outer s H E hr => ?_
  have nd := z7v.nd
  have hu := hr.units
  refine ⟨z9u, ?_, fun ds hne => (z1w (z0m hne)).symm⟩
  exact (z0c (z0x 1 (PD.ro (z1i F_f hr m_f (z0i (z0a 0) (z0i z0e z0t)))) nd)
    (z0c (z0x 2 (PD.ro (z0v z3l z0e (z0v z1p (z0v z4s (z0a 1) z0e) (z0v y0x z0e z0e)))) nd)
    (z0c (z3i (z0s (z5m hu) (z0v z1p (z0a 1) z0e) z0e (z0y _)) (z0c (z0x 2 (PD.ro z0e) nd)
    (z0d (z5y 3 z1e rfl (z4f (PF.ro (z7y z5l)))
    (z0d (z0x 2 (PD.ro (z0v z6e (z0a 2) (z0v z3l z0e (z0v z1p (z0v z4s (z0a 1) (z0a 3)) z0e)))) nd)) nd))) z1d)
    (z0c (z3i (z2g (z2f (z1i F_g hr m_g (z0i (z0a 2) z0t)))) (z0d (z0w z5k)) z1d)
    (z0c (z5y 1 z1e rfl (z4f (PF.ro (y2i (z0a 0) (podS z0e) podN)))
    (z0d (z3i (z2g (z2f (z1i F_g hr m_g (z0i (z0v z3l z0e (z0v z1p (z0a 1) z0e)) z0t)))) (z0d (z0w z5k)) z1d)) nd)
    (z0d (z0w z5k)))))))
end
theorem z5n {α : Type} {p : List α -> Prop} (h : ∀ a, p [a]) (us : List α) (hl : us.length = 1) : p us := by
  obtain ⟨a, rfl⟩ : ∃ a, us = [a] := by
    match us, hl with
    | [a], _ => exact ⟨a, rfl⟩
  exact h a
theorem y1h {α : Type} {p : List α -> Prop} (h : ∀ a b, p [a, b]) (us : List α) (hl : us.length = 2) : p us := by
  obtain ⟨a, b, rfl⟩ : ∃ a b, us = [a, b] := by
    match us, hl with
    | [a, b], _ => exact ⟨a, b, rfl⟩
  exact h a b
theorem all_mk {l : PySem.W.OpenLaw} {w : World} {K : PySem.W.Frag} {h : Heap} {mg : Str -> Option Value} {fa : Addr} (X : K.In h) (G : h.Ns mainGlobals mg) (hfa : mg "law" = some (.ref fa))
    {a_f : Addr} {od_f an_f : Option Addr} {sl_f : Array (Option Value)} {oc_f kV_f dc_f pm_f cd_f ct_f : Value}
    {a_a : Addr} {od_a an_a : Option Addr} {sl_a : Array (Option Value)} {oc_a kV_a dc_a pm_a cd_a ct_a : Value}
    {a_d : Addr} {od_d an_d : Option Addr} {sl_d : Array (Option Value)} {oc_d kV_d dc_d pm_d cd_d ct_d : Value}
    {a_c : Addr} {od_c an_c : Option Addr} {sl_c : Array (Option Value)} {oc_c kV_c dc_c pm_c cd_c ct_c : Value}
    {a_b : Addr} {od_b an_b : Option Addr} {sl_b : Array (Option Value)} {oc_b kV_b dc_b pm_b cd_b ct_b : Value}
    {a_e : Addr} {od_e an_e : Option Addr} {sl_e : Array (Option Value)} {oc_e kV_e dc_e pm_e cd_e ct_e : Value}
    {a_g : Addr} {od_g an_g : Option Addr} {sl_g : Array (Option Value)} {oc_g kV_g dc_g pm_g cd_g ct_g : Value}
    {a_law : Addr} {od_law an_law : Option Addr} {sl_law : Array (Option Value)} {oc_law kV_law dc_law pm_law cd_law ct_law : Value}
    (a1_f : PySem.W.nsIn K mainGlobals "_law_cell" = some (some (.ref a_f))) (l1_f : K.lookup a_f = some ⟨oc_f, od_f, .func (PySem.W.fnOf "_law_cell" "_law_cell" (z0o s_f) (z0h s_f) (z0b s_f) .none kV_f dc_f pm_f an_f cd_f ct_f), sl_f⟩) (c1_f : PySem.W.codeIn K cd_f "_law_cell" = true) (k1_f : PySem.W.keepIn K (.ref a_f) = true)
    (a1_a : PySem.W.nsIn K mainGlobals "_law_is_prime" = some (some (.ref a_a))) (l1_a : K.lookup a_a = some ⟨oc_a, od_a, .func (PySem.W.fnOf "_law_is_prime" "_law_is_prime" (z0o s_a) (z0h s_a) (z0b s_a) .none kV_a dc_a pm_a an_a cd_a ct_a), sl_a⟩) (c1_a : PySem.W.codeIn K cd_a "_law_is_prime" = true) (k1_a : PySem.W.keepIn K (.ref a_a) = true)
    (a1_d : PySem.W.nsIn K mainGlobals "_law_whole" = some (some (.ref a_d))) (l1_d : K.lookup a_d = some ⟨oc_d, od_d, .func (PySem.W.fnOf "_law_whole" "_law_whole" (z0o s_d) (z0h s_d) (z0b s_d) .none kV_d dc_d pm_d an_d cd_d ct_d), sl_d⟩) (c1_d : PySem.W.codeIn K cd_d "_law_whole" = true) (k1_d : PySem.W.keepIn K (.ref a_d) = true)
    (a1_c : PySem.W.nsIn K mainGlobals "least_divisor" = some (some (.ref a_c))) (l1_c : K.lookup a_c = some ⟨oc_c, od_c, .func (PySem.W.fnOf "least_divisor" "least_divisor" (z0o s_c) (z0h s_c) (z0b s_c) .none kV_c dc_c pm_c an_c cd_c ct_c), sl_c⟩) (c1_c : PySem.W.codeIn K cd_c "least_divisor" = true) (k1_c : PySem.W.keepIn K (.ref a_c) = true)
    (a1_b : PySem.W.nsIn K mainGlobals "without_prime" = some (some (.ref a_b))) (l1_b : K.lookup a_b = some ⟨oc_b, od_b, .func (PySem.W.fnOf "without_prime" "without_prime" (z0o s_b) (z0h s_b) (z0b s_b) .none kV_b dc_b pm_b an_b cd_b ct_b), sl_b⟩) (c1_b : PySem.W.codeIn K cd_b "without_prime" = true) (k1_b : PySem.W.keepIn K (.ref a_b) = true)
    (a1_e : PySem.W.nsIn K mainGlobals "primes_of" = some (some (.ref a_e))) (l1_e : K.lookup a_e = some ⟨oc_e, od_e, .func (PySem.W.fnOf "primes_of" "primes_of" (z0o s_e) (z0h s_e) (z0b s_e) .none kV_e dc_e pm_e an_e cd_e ct_e), sl_e⟩) (c1_e : PySem.W.codeIn K cd_e "primes_of" = true) (k1_e : PySem.W.keepIn K (.ref a_e) = true)
    (a1_g : PySem.W.nsIn K mainGlobals "_law_good" = some (some (.ref a_g))) (l1_g : K.lookup a_g = some ⟨oc_g, od_g, .func (PySem.W.fnOf "_law_good" "_law_good" (z0o s_g) (z0h s_g) (z0b s_g) .none kV_g dc_g pm_g an_g cd_g ct_g), sl_g⟩) (c1_g : PySem.W.codeIn K cd_g "_law_good" = true) (k1_g : PySem.W.keepIn K (.ref a_g) = true)
    (a1_law : PySem.W.nsIn K mainGlobals "law" = some (some (.ref a_law))) (l1_law : K.lookup a_law = some ⟨oc_law, od_law, .func (PySem.W.fnOf "law" "law" (z0o z3a) (z0h z3a) (z0b z3a) .none kV_law dc_law pm_law an_law cd_law ct_law), sl_law⟩) (c1_law : PySem.W.codeIn K cd_law "law" = true) (k1_law : PySem.W.keepIn K (.ref a_law) = true)
    (z_bool : PySem.W.nsIn K mainGlobals "bool" = some none)
    (z_int : PySem.W.nsIn K mainGlobals "int" = some none)
    (z_isinstance : PySem.W.nsIn K mainGlobals "isinstance" = some none)
    (z_len : PySem.W.nsIn K mainGlobals "len" = some none)
    (z_list : PySem.W.nsIn K mainGlobals "list" = some none)
    : ∃ fd : FuncData, (∀ (s : Shared) (v : Value), BindsTo s fd ⟨[v], []⟩ [("script", v)]) /\ ∀ base : Heap, K.In base -> base.Ns mainGlobals mg -> FnOk l.prog w K mg base (CXE l.prog w) 4 fa fd ["script"] (spN c_law K) := by
  have e := hfa.symm.trans (PySem.W.mg_of X G a1_law)
  cases e
  have U_f := z1v (st := s_f) l1_f c1_f k1_f
  have b_f := U_f.binds (ps := ["script", "k"]) fun _ _ _ _ _ _ => y1h fun _ _ => rfl
  have m_f := PySem.W.mg_of X G a1_f
  have U_a := z1v (st := s_a) l1_a c1_a k1_a
  have b_a := U_a.binds (ps := ["n"]) fun _ _ _ _ _ _ => z5n fun _ => rfl
  have m_a := PySem.W.mg_of X G a1_a
  have U_d := z1v (st := s_d) l1_d c1_d k1_d
  have b_d := U_d.binds (ps := ["found"]) fun _ _ _ _ _ _ => z5n fun _ => rfl
  have m_d := PySem.W.mg_of X G a1_d
  have U_c := z1v (st := s_c) l1_c c1_c k1_c
  have b_c := U_c.binds (ps := ["n"]) fun _ _ _ _ _ _ => z5n fun _ => rfl
  have m_c := PySem.W.mg_of X G a1_c
  have U_b := z1v (st := s_b) l1_b c1_b k1_b
  have b_b := U_b.binds (ps := ["n", "divisor"]) fun _ _ _ _ _ _ => y1h fun _ _ => rfl
  have m_b := PySem.W.mg_of X G a1_b
  have U_e := z1v (st := s_e) l1_e c1_e k1_e
  have b_e := U_e.binds (ps := ["n"]) fun _ _ _ _ _ _ => z5n fun _ => rfl
  have m_e := PySem.W.mg_of X G a1_e
  have U_g := z1v (st := s_g) l1_g c1_g k1_g
  have b_g := U_g.binds (ps := ["n"]) fun _ _ _ _ _ _ => z5n fun _ => rfl
  have m_g := PySem.W.mg_of X G a1_g
  have U_law := z1v (st := z3a) l1_law c1_law k1_law
  have b_law := U_law.binds (ps := ["script"]) fun _ _ _ _ _ _ => z5n fun _ => rfl
  have m_law := PySem.W.mg_of X G a1_law
  have m_bool := PySem.W.mg_none_of X G z_bool
  have m_int := PySem.W.mg_none_of X G z_int
  have m_isinstance := PySem.W.mg_none_of X G z_isinstance
  have m_len := PySem.W.mg_none_of X G z_len
  have m_list := PySem.W.mg_none_of X G z_list
  refine ⟨PySem.W.fnOf "law" "law" (z0o z3a) (z0h z3a) (z0b z3a) .none kV_law dc_law pm_law an_law cd_law ct_law, fun s v => .of_eq rfl, fun base _ _ => ?_⟩
  have G_f := f_f (P := l.prog) (w := w) (mg := mg) (base := base) U_f b_f m_len
  have G_a := f_a (P := l.prog) (w := w) (mg := mg) (base := base) U_a b_a
  have G_d := f_d (P := l.prog) (w := w) (mg := mg) (base := base) U_d b_d m_bool m_int m_isinstance
  have G_c := f_c (P := l.prog) (w := w) (mg := mg) (base := base) U_c b_c
  have G_b := f_b (P := l.prog) (w := w) (mg := mg) (base := base) U_b b_b
  have G_e := f_e (P := l.prog) (w := w) (mg := mg) (base := base) U_e b_e G_c m_c G_b m_b
  have G_g := f_g (P := l.prog) (w := w) (mg := mg) (base := base) U_g b_g G_a m_a G_d m_d m_isinstance m_list G_e m_e
  have G_law := y2v (P := l.prog) (w := w) (mg := mg) (base := base) U_law b_law G_f m_f G_g m_g
  exact G_law.okN
end Row
open PySem PySem.W PyProof.Rows
set_option maxRecDepth 100000 in
set_option maxHeartbeats 0 in
theorem PySem.Challenge.cw_longrounds_k61_primes_of_numbers_holds : PySem.Challenge.rw_longrounds_k61_primes_of_numbers.Holds := by
  w_on; o_law; k_head; (case hw => w_witness2)
  k_fill
  refine L3.walk_ofL (sp := L3.spN L3.c_law) (l := PySem.Challenge.rw_longrounds_k61_primes_of_numbers) (n := 63) (k := 4) (x := "script") (CX := fun w => L3.CXE PySem.Challenge.rw_longrounds_k61_primes_of_numbers.prog w) rfl (by decide) rfl ⟨rfl, by decide, by decide⟩ (fun w h Y => PySem.W.kIn_of Y) ?F ?S ?C
  case F =>
    intro w mg fa h KX G hmg
    refine' Row.all_mk KX G hmg ?a1_f ?l1_f ?c1_f ?k1_f ?a1_a ?l1_a ?c1_a ?k1_a ?a1_d ?l1_d ?c1_d ?k1_d ?a1_c ?l1_c ?c1_c ?k1_c ?a1_b ?l1_b ?c1_b ?k1_b ?a1_e ?l1_e ?c1_e ?k1_e ?a1_g ?l1_g ?c1_g ?k1_g ?a1_law ?l1_law ?c1_law ?k1_law ?z_bool ?z_int ?z_isinstance ?z_len ?z_list
    (case a1_f => k_is)
    (case l1_f => k_is)
    (case c1_f => k_is)
    (case k1_f => k_is)
    (case a1_a => k_is)
    (case l1_a => k_is)
    (case c1_a => k_is)
    (case k1_a => k_is)
    (case a1_d => k_is)
    (case l1_d => k_is)
    (case c1_d => k_is)
    (case k1_d => k_is)
    (case a1_c => k_is)
    (case l1_c => k_is)
    (case c1_c => k_is)
    (case k1_c => k_is)
    (case a1_b => k_is)
    (case l1_b => k_is)
    (case c1_b => k_is)
    (case k1_b => k_is)
    (case a1_e => k_is)
    (case l1_e => k_is)
    (case c1_e => k_is)
    (case k1_e => k_is)
    (case a1_g => k_is)
    (case l1_g => k_is)
    (case c1_g => k_is)
    (case k1_g => k_is)
    (case a1_law => k_is)
    (case l1_law => k_is)
    (case c1_law => k_is)
    (case k1_law => k_is)
    (case z_bool => k_is)
    (case z_int => k_is)
    (case z_isinstance => k_is)
    (case z_len => k_is)
    (case z_list => k_is)
  case S => exact fun K H a ns hl hS => L3.law_true L3.law_k61 hl hS
  case C => exact fun w H s e s' h => L3.cxe_false h


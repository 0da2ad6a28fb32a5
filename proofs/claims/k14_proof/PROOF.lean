import PyProof.Rows.All
import Wide.All
import OpenK.AllK
import Wide.FinOn
import Lean
import PyProof.EqAt
import PyProof.EqKinds
import PyProof.TupleCall
import PyProof.ExcAttrAll.ValueError
import PyProof.ZipIter
import PyProof.TupleIter
import PyProof.P3In
import PyProof.Rows.SeqMore2
import PyProof.FactsAll.tuple_3
import PyProof.FactsAll.list_3
import PyProof.Rows.Range3
import KE.KRevIter
import PyProof.Rows.FactsT2
import PySem.Builtin.Int.W1All
import PyProof.SetScanFacts
import PyProof.SetKind
import PyProof.DictKinds
import PyProof.DictStraight
import PyProof.Rows.SetFrom
import PyProof.CollectWalk
import PyProof.Seq
import PyProof.DictIter
import PyProof.Rows.Tup
import PyProof.FactsAll.set_1
import PyProof.FactsAll.set_2
import PyProof.Rows.SortWalk
import PyProof.ConsumeWalk
import PyProof.Rows.SumAny
import PySem.Syntax
import PyProof.ListRange
import PyProof.EnumMake
import PySem.Challenge.RW_talkleast_k14_settled_or_not
set_option Elab.async false
set_option linter.all false
set_option maxRecDepth 100000
set_option maxHeartbeats 4000000
section
namespace L2
open PySem PySem.Spec PyProof.Rows
noncomputable abbrev Key := Sum Int Str
noncomputable def z5T : Key -> Value -> Bool
 | .inl k, v => Value.isInt k v
 | .inr x, v => Value.isStrOf x v
noncomputable def keyH (w : World) : Key -> Int
 | .inl k => hashInt k
 | .inr x => hashStr w x
theorem q0U : ∀ {k : Key} {v : Value}, z5T k v = true -> (∃ i t, k = Sum.inl i /\ v = Value.int i t) \/ (∃ x t, k = Sum.inr x /\ v = Value.str x t)
 | .inl i, v, h => by
  obtain ⟨t, e⟩ := Value.isInt_shape (k := i) (v := v) h
  exact .inl ⟨i, t, rfl, e⟩
 | .inr x, v, h => by
  obtain ⟨t, e⟩ := Value.isStrOf_shape (x := x) (v := v) h
  exact .inr ⟨x, t, rfl, e⟩
theorem z3Q (a b : Int) : decide ((Sum.inl a : Key) = Sum.inl b) = (a == b) := by
 by_cases e : a = b
 ·subst e; simp
 ·have h : ¬ (Sum.inl a : Key) = Sum.inl b := λ q => e (Sum.inl.inj q)
  rw [decide_eq_false h]
  exact (beq_eq_false_iff_ne.mpr e).symm
theorem z5E (a b : Str) : decide ((Sum.inr a : Key) = Sum.inr b) = decide (a = b) := by
 by_cases e : a = b
 ·subst e; simp
 ·have h : ¬ (Sum.inr a : Key) = Sum.inr b := λ q => e (Sum.inr.inj q)
  rw [decide_eq_false h, decide_eq_false e]
theorem z4X (a : Int) (b : Str) : decide ((Sum.inl a : Key) = Sum.inr b) = false := decide_eq_false (λ q => nomatch q)
theorem z4k (a : Str) (b : Int) : decide ((Sum.inr a : Key) = Sum.inl b) = false := decide_eq_false (λ q => nomatch q)
noncomputable def q6t (prog : Program) (w : World) : PySem.KeyKind prog w Key where
 is := z5T
 hash := keyH w
 inj := λ v a b ha hb => by
  rcases q0U ha with ⟨i, t, rfl, rfl⟩ | ⟨x, t, rfl, rfl⟩
  ·rcases q0U hb with ⟨j, u, rfl, e⟩ | ⟨y, u, rfl, e⟩
   ·injection e with e1 _; rw [e1]
   ·exact nomatch e
  ·rcases q0U hb with ⟨j, u, rfl, e⟩ | ⟨y, u, rfl, e⟩
   ·exact nomatch e
   ·injection e with e1 _; rw [e1]
 byValue := λ k v h => by
  rcases q0U h with ⟨i, t, rfl, rfl⟩ | ⟨x, t, rfl, rfl⟩ <;> rfl
 pyHash := λ hv h => by
  rcases q0U hv with ⟨i, t, rfl, rfl⟩ | ⟨x, t, rfl, rfl⟩
  ·exact wpAny_pyHash_int h
  ·exact wpAny_pyHash_str h
 eqBool := λ hu hv h => by
  rcases q0U hu with ⟨i, t, rfl, rfl⟩ | ⟨x, t, rfl, rfl⟩
  ·rcases q0U hv with ⟨j, u, rfl, rfl⟩ | ⟨y, u, rfl, rfl⟩
   ·rw [z3Q] at h; exact wpAny_eqBool_int h
   ·rw [z4X] at h; exact SeqAt.EqAt.int_str i t y u _ _ _ _ h
  ·rcases q0U hv with ⟨j, u, rfl, rfl⟩ | ⟨y, u, rfl, rfl⟩
   ·rw [z4k] at h; exact SeqAt.EqAt.str_int x t j u _ _ _ _ h
   ·rw [z5E] at h; exact wpAny_eqBool_str h
 «strs» := λ k x t v h => by
  rcases q0U h with ⟨i, u, rfl, e⟩ | ⟨y, u, rfl, e⟩
  ·exact nomatch e
  ·injection e with e1 _
   subst e1
   cases v <;> rfl
end L2
namespace L2
open PySem PySem.Spec PyProof.Rows
inductive V where
 | non | bl (b : Bool) | int (i : Int) | str (x : Str) | byt (b : Array UInt8) | flt (b : UInt64) | ref (a : Addr) | ty (n : String)
 deriving DecidableEq
noncomputable def RelV : V -> Value -> Prop
 | .non, u => u = Value.none
 | .bl b, u => u = Value.bool b
 | .int i, u => ∃ t, u = Value.int i t
 | .str x, u => ∃ t, u = Value.str x t
 | .byt b, u => ∃ t, u = Value.bytes b t
 | .flt b, u => ∃ t, u = Value.float b t
 | .ref a, u => u = Value.ref a
 | .ty n, u => u = Value.type n
noncomputable abbrev Vals : List V -> List Value -> Prop := Paired RelV
theorem Vals.length {xs : List V} {us : List Value} (r : Vals xs us) : xs.length = us.length := Paired.length r
theorem Vals.get : ∀ {xs : List V} {us : List Value} {i : Nat} {x : V}, Vals xs us -> xs[i]? = some x -> ∃ u, us[i]? = some u /\ RelV x u
 | _, _, _, _, .nil, e => by simp at e
 | _, _, 0, _, .cons r _, e => by simp at e; subst e; exact ⟨_, rfl, r⟩
 | _, _, i + 1, x, .cons _ t, e => by
  obtain ⟨u, h1, h2⟩ := Vals.get (i := i) (x := x) t (by simpa using e)
  exact ⟨u, by simpa using h1, h2⟩
theorem Vals.set {x : V} {u : Value} (r : RelV x u) : ∀ {xs : List V} {us : List Value} (i : Nat), Vals xs us -> Vals (xs.set i x) (us.set i u)
 | _, _, _, .nil => .nil
 | _, _, 0, .cons _ t => .cons r t
 | _, _, i + 1, .cons q t => .cons q (Vals.set r i t)
theorem Vals.append : ∀ {xs ys : List V} {us ws : List Value}, Vals xs us -> Vals ys ws -> Vals (xs ++ ys) (us ++ ws)
 | _, _, _, _, .nil, s => s
 | _, _, _, _, .cons r t, s => .cons r (Vals.append t s)
theorem Vals.take : ∀ {xs : List V} {us : List Value} (n : Nat), Vals xs us -> Vals (xs.take n) (us.take n)
 | _, _, 0, _ => .nil
 | _, _, _ + 1, .nil => .nil
 | _, _, n + 1, .cons r t => .cons r (Vals.take n t)
theorem Vals.drop : ∀ {xs : List V} {us : List Value} (n : Nat), Vals xs us -> Vals (xs.drop n) (us.drop n)
 | _, _, 0, r => r
 | _, _, _ + 1, .nil => .nil
 | _, _, n + 1, .cons _ t => Vals.drop n t
noncomputable def RelO : Option V -> Option Value -> Prop
 | some v, some u => RelV v u
 | none, none => True
 | _, _ => False
noncomputable def KV {κ : Type} : List (κ × V) -> List (κ × Value) -> Prop := Paired λ (p : κ × V) (q : κ × Value) => p.1 = q.1 /\ RelV p.2 q.2
noncomputable def kV : Key -> V
 | .inl i => .int i
 | .inr x => .str x
inductive HO where
 | lst (xs : List V)
 | tup (xs : List V)
 | dK (kvs : List (Key × V)) | dT (kvs : List (List Key × V))
 | set (S : Int -> Bool) (n : Nat)
 | ins (C dx : Addr) (fs : List (Str × V))
 | own (x : Addr)
 | xd (fs : List (Str × V))
 | met (f x : Addr)
 | rng (lo hi : Int)
 | frz (o : Obj) (u : HO)
 | tbl (ps : Array Value)
 | ext (φ : Heap -> Prop)
noncomputable abbrev Hp := Addr -> Option HO
noncomputable def upd (H : Hp) (a : Addr) (o : HO) : Hp := λ b => if b = a then some o else H b
theorem q1d {H : Hp} {a : Addr} {o : HO} : upd H a o a = some o := by unfold upd; rw [if_pos rfl]
theorem q0z {H : Hp} {a b : Addr} {o : HO} (h : b ≠ a) : upd H a o b = H b := by unfold upd; rw [if_neg h]
theorem q0t {H : Hp} {a b : Addr} {o : HO} (h : H a = some o) (h' : H b = none) : a ≠ b := by
 intro e; subst e; rw [h] at h'; cases h'
noncomputable def q2L (h : Heap) (a : Addr) (items : Array Value) : Prop := ∃ o, h.get? a = some o /\ (o.cls = .type "tuple" /\ o.dict = none) /\ ∃ n, o.data = .seq items n
theorem q2L.tup {h : Heap} {a items} (x : q2L h a items) : IsTup h a items := let ⟨o, ho, hc, r⟩ := x; ⟨o, ho, hc.1, r⟩
theorem q2L.lt {h : Heap} {a items} (x : q2L h a items) : a < h.objs.size := let ⟨_, ho, _⟩ := x; Heap.lt_size ho
theorem q2L.new (h : Heap) (items : Array Value) : q2L (h.push { cls := .type "tuple", data := .seq items }) h.objs.size items := ⟨_, Heap.get?_push_size _ rfl, ⟨rfl, rfl⟩, _, rfl⟩
section
variable (P : Program) (w : World)
noncomputable def q1V (H : Hp) (h : Heap) (a : Addr) : HO -> Prop
 | .lst xs => xs.length <= sizeLine /\ ∃ (its : List Value) (n : Nat), Vals xs its /\ h.get? a = some { cls := .type "list", data := .seq its.toArray n }
 | .tup xs => xs.length <= sizeLine /\ ∃ its : List Value, Vals xs its /\ q2L h a its.toArray
 | .dK kvs => kvs.length <= sizeLine /\ (a == sysModules) = false /\ ∃ vs, KV kvs vs /\ h.DictOf (q6t P w) a vs
 | .dT kvs => kvs.length <= sizeLine /\ (a == sysModules) = false /\ ∃ xs : List (List Key × Addr × Value),
   Paired (λ (p : List Key × V) (q : List Key × Addr × Value) => p.1 = q.1 /\ H q.2.1 = some (.tup (p.1.map kV)) /\ RelV p.2 q.2.2) kvs xs /\
   ∃ o es ep, h.get? a = some o /\ o.ExactDict /\ o.data = .dict es ep /\ es.toList = xs.map (entryOfKey (tupleKind (q6t P w))) /\ (xs.map (·.1)).Nodup
 | .set S n => h.SetOf (intKind P w) a S n
 | .ins C dx fs => H dx = some (.own a) /\ fs.length <= 1000 /\ dx ≠ a /\ h.get? a = some (PySem.W.instObj C dx) /\
   ∃ mA, h.Ns1 dx mA /\ (∀ f, RelO (fs.lookup f) (mA f)) /\ PySem.Within mA (fs.map (·.1))
 | .own _ => ∃ o, h.get? a = some o
 | .xd fs => ∃ mA, h.Ns1 a mA /\ ∀ f, RelO (fs.lookup f) (mA f)
 | .rng lo hi => ∃ t u v, h.get? a = some { cls := .type "range", data := .fields #[.int lo t, .int hi u, .int 1 v] }
 | .frz o u => h.get? a = some o /\ q1V H h a u
 | .tbl ps => h.get? a = some { cls := .none, data := .fields ps }
 | .met f x => h.get? a = some (PySem.W.methodObj (.ref f) (.ref x))
 | .ext φ => φ h /\ (∃ o, h.get? a = some o) /\ ∀ h1 h2 : Heap, φ h1 -> (∀ o, h1.get? a = some o -> h2.get? a = some o) -> φ h2
noncomputable def HOk (H : Hp) (h : Heap) : Prop := ∀ a o, H a = some o -> q1V P w H h a o
end
section
variable {P : Program} {w : World} {H H' : Hp} {h h' : Heap} {a : Addr} {o : HO}
theorem q1V.lt (x : q1V P w H h a o) : a < h.objs.size := by
 cases o with
 | lst xs => obtain ⟨_, _, _, _, e⟩ := x; exact Heap.lt_size e
 | tup xs => obtain ⟨_, _, _, p⟩ := x; exact p.lt
 | dK kvs => obtain ⟨_, _, _, _, o, _, _, e, _⟩ := x; exact Heap.lt_size e
 | dT kvs => obtain ⟨_, _, _, _, o, _, _, e, _⟩ := x; exact Heap.lt_size e
 | set S n => obtain ⟨o, _, _, _, e, _⟩ := x; exact Heap.lt_size e
 | ins C dx fs => obtain ⟨_, _, _, e, _⟩ := x; exact Heap.lt_size e
 | own y => obtain ⟨_, e⟩ := x; exact Heap.lt_size e
 | xd fs => obtain ⟨_, ⟨_, _, _, e, _⟩, _⟩ := x; exact Heap.lt_size e
 | rng lo hi => obtain ⟨_, _, _, e⟩ := x; exact Heap.lt_size e
 | frz ob u => obtain ⟨e, _⟩ := x; exact Heap.lt_size e
 | tbl ps => exact Heap.lt_size (show h.get? a = some _ from x)
 | met f y => exact Heap.lt_size (show h.get? a = some _ from x)
 | ext φ => obtain ⟨_, ⟨_, e⟩, _⟩ := x; exact Heap.lt_size e
theorem Paired.mapP {α β : Type} {F G : α -> β -> Prop} : ∀ {l₁ : List α} {l₂ : List β}, Paired F l₁ l₂ -> (∀ a b, F a b -> G a b) -> Paired G l₁ l₂
 | _, _, .nil, _ => .nil
 | _, _, .cons r t, f => .cons (f _ _ r) (Paired.mapP t f)
theorem q1V.stay (x : q1V P w H h a o) (k : ∀ b u, (b = a \/ H b = some (.own a)) -> h.get? b = some u -> h'.get? b = some u)
  (ho : ∀ b, H b = some (.own a) -> H' b = some (.own a)) (ht : ∀ b xs, H b = some (.tup xs) -> H' b = some (.tup xs)) : q1V P w H' h' a o := by
 induction o with
 | lst xs => obtain ⟨z, its, n, r, e⟩ := x; exact ⟨z, its, n, r, k _ _ (.inl rfl) e⟩
 | tup xs => obtain ⟨z, its, r, ob, e, c⟩ := x; exact ⟨z, its, r, ob, k _ _ (.inl rfl) e, c⟩
 | dK kvs => obtain ⟨z, y, vs, r, ob, es, ep, e, c⟩ := x; exact ⟨z, y, vs, r, ob, es, ep, k _ _ (.inl rfl) e, c⟩
 | dT kvs =>
  obtain ⟨z, y, xs, r, ob, es, ep, e, c⟩ := x
  exact ⟨z, y, xs, Paired.mapP r λ p q z => ⟨z.1, ht _ _ z.2.1, z.2.2⟩, ob, es, ep, k _ _ (.inl rfl) e, c⟩
 | set S n => obtain ⟨ob, es, ep, t, e, c⟩ := x; exact ⟨ob, es, ep, t, k _ _ (.inl rfl) e, c⟩
 | ins C dx fs =>
  obtain ⟨d, z, ne, e, mA, ⟨od, es, ep, e2, c⟩, r⟩ := x
  exact ⟨ho _ d, z, ne, k _ _ (.inl rfl) e, mA, ⟨od, es, ep, k _ _ (.inr d) e2, c⟩, r⟩
 | own y => obtain ⟨ob, e⟩ := x; exact ⟨ob, k _ _ (.inl rfl) e⟩
 | xd fs => obtain ⟨mA, ⟨od, es, ep, e, c⟩, r⟩ := x; exact ⟨mA, ⟨od, es, ep, k _ _ (.inl rfl) e, c⟩, r⟩
 | rng lo hi => obtain ⟨t, u, v, e⟩ := x; exact ⟨t, u, v, k _ _ (.inl rfl) e⟩
 | frz ob u ih => obtain ⟨e, q⟩ := x; exact ⟨k _ _ (.inl rfl) e, ih q⟩
 | tbl ps =>
  have e : h.get? a = some { cls := .none, data := .fields ps } := x
  show h'.get? a = some { cls := .none, data := .fields ps }
  exact k a _ (.inl rfl) e
 | met f y =>
  have e : h.get? a = some (PySem.W.methodObj (.ref f) (.ref y)) := x
  show h'.get? a = some (PySem.W.methodObj (.ref f) (.ref y))
  exact k a _ (.inl rfl) e
 | ext φ => obtain ⟨p, ⟨o, e⟩, st⟩ := x; exact ⟨st _ _ p λ o q => k _ _ (.inl rfl) q, ⟨o, k _ _ (.inl rfl) e⟩, st⟩
theorem HOk.lt (x : HOk P w H h) (e : H a = some o) : a < h.objs.size := (x a o e).lt
theorem HOk.fresh (x : HOk P w H h) (e : h.objs.size <= a) : H a = none := by
 cases q : H a with
 | none => rfl
 | some u => exact absurd (Nat.lt_of_lt_of_le (x.lt q) e) (Nat.lt_irrefl _)
theorem HOk.kept (x : HOk P w H h) (k : ∀ b u, h.get? b = some u -> h'.get? b = some u) : HOk P w H h' := λ a o e =>
 (x a o e).stay (λ b u _ q => k b u q) (λ _ q => q) λ _ _ q => q
theorem HOk.laid (x : HOk P w H h) (k : ∀ b u, h.get? b = some u -> h'.get? b = some u) (hp : h.objs.size <= a) (new : q1V P w (upd H a o) h' a o) : HOk P w (upd H a o) h' := λ b u e => by
 have hn := x.fresh hp
 by_cases hb : b = a
 ·subst hb; rw [q1d] at e; cases e; exact new
 ·rw [q0z hb] at e
  exact (x b u e).stay (λ c v _ q => k c v q) (λ c q => by rw [q0z (q0t q hn)]; exact q) λ c xs q => by rw [q0z (q0t q hn)]; exact q
end
noncomputable def Rd (H : Hp) (a : Addr) (u : HO) : Prop := H a = some u \/ ∃ o, H a = some (.frz o u)
theorem Rd.ok {P : Program} {w : World} {H : Hp} {h : Heap} {a : Addr} {u : HO} (r : Rd H a u) (x : HOk P w H h) : q1V P w H h a u := by
 rcases r with r | ⟨o, r⟩
 ·exact x a u r
 ·obtain ⟨_, q⟩ := x a _ r
  exact q
noncomputable def Mut : Option HO -> Prop
 | some (.lst _) => True
 | some (.dK _) => True
 | some (.dT _) => True
 | some (.set _ _) => True
 | some (.ins _ _ _) => True
 | some (.ext _) => True
 | _ => False
section
variable {P : Program} {w : World} {H : Hp} {h h' : Heap} {x e : Addr} {o' : HO}
theorem HOk.write (ok : HOk P w H h) (mu : Mut (H x)) (he : e = x \/ H e = some (.own x)) (k : ∀ b u, b ≠ e -> h.get? b = some u -> h'.get? b = some u) (heo : ∃ u, h'.get? e = some u)
  (new : q1V P w (upd H x o') h' x o') : HOk P w (upd H x o') h' := λ b u q => by
 have nown : ∀ c y, H c = some (.own y) -> c ≠ x := λ c y r z => by subst z; rw [r] at mu; exact mu
 have ntup : ∀ c xs, H c = some (.tup xs) -> c ≠ x := λ c xs r z => by subst z; rw [r] at mu; exact mu
 by_cases hb : b = x
 ·subst hb; rw [q1d] at q; cases q; exact new
 ·rw [q0z hb] at q
  by_cases hbe : b = e
  ·have q' : H b = some (.own x) := by
    rcases he with z | z
    ·exact absurd (hbe.trans z) hb
    ·rw [hbe]; exact z
   rw [q] at q'; cases q'
   obtain ⟨v, hv⟩ := heo
   exact ⟨v, by rw [hbe]; exact hv⟩
  ·refine (ok b u q).stay (λ c v hc r => k c v ?_ r) (λ c r => by rw [q0z (nown c b r)]; exact r) λ c xs r => by rw [q0z (ntup c xs r)]; exact r
   rcases hc with rfl | hc
   ·exact hbe
   ·rintro rfl
    rcases he with z | z
    ·exact nown c b hc z
    ·rw [hc] at z; cases z; exact hb rfl
end
structure Un (fs ex : List Addr) (H H' : Hp) (h h' : Heap) : Prop where
 keep : ∀ b o, h.get? b = some o -> H b = none -> b ∉ fs -> b ∉ ex -> h'.get? b = some o
 slot : ∀ b o, h.get? b = some o -> H b = none -> b ∈ fs -> b ∉ ex -> ∃ sl, h'.get? b = some { o with slots := sl }
 free : ∀ b o, h.get? b = some o -> H b = none -> b ∉ ex -> H' b = none
 there : ∀ b o, h.get? b = some o -> b ∉ ex -> ∃ o', h'.get? b = some o'
 tups : ∀ b xs, H b = some (.tup xs) -> H' b = some (.tup xs)
 frzs : ∀ b o u, H b = some (.frz o u) -> H' b = some (.frz o u)
 tbls : ∀ b ps, H b = some (.tbl ps) -> ∃ more, H' b = some (.tbl (ps ++ more))
section
variable {fs fs' ex ex' : List Addr} {H H1 H2 : Hp} {h h1 h2 h' : Heap} {a x e : Addr} {o : HO}
theorem Un.any (u : Un fs ex H H1 h h1) {b : Addr} {ob : Obj} (q : h.get? b = some ob) (n : H b = none) (hx : b ∉ ex) : ∃ sl, h1.get? b = some { ob with slots := sl } := by
 by_cases hb : b ∈ fs
 ·exact u.slot b ob q n hb hx
 ·exact ⟨ob.slots, u.keep b ob q n hb hx⟩
theorem Un.kept (k : ∀ b u, h.get? b = some u -> h'.get? b = some u) : Un fs ex H H h h' :=
 ⟨λ b ob q _ _ _ => k b ob q, λ b ob q _ _ _ => ⟨ob.slots, k b ob q⟩, λ _ _ _ n _ => n, λ b ob q _ => ⟨ob, k b ob q⟩, λ _ _ q => q, λ _ _ _ q => q, λ _ ps q => ⟨#[], by rw [q]; simp⟩⟩
theorem Un.refl : Un fs ex H H h h := Un.kept λ _ _ q => q
theorem Un.laid (k : ∀ b u, h.get? b = some u -> h'.get? b = some u) (hp : h.objs.size <= a) (hn : H a = none) : Un fs ex H (upd H a o) h h' where
 keep := λ b u q _ _ _ => k b u q
 slot := λ b u q _ _ _ => ⟨u.slots, k b u q⟩
 free := λ b u q n _ => by rw [q0z (Nat.ne_of_lt (Nat.lt_of_lt_of_le (Heap.lt_size q) hp))]; exact n
 there := λ b u q _ => ⟨u, k b u q⟩
 tups := λ b xs q => by rw [q0z (q0t q hn)]; exact q
 frzs := λ b u xs q => by rw [q0z (q0t q hn)]; exact q
 tbls := λ b ps q => ⟨#[], by rw [q0z (q0t q hn), q]; simp⟩
theorem Un.write (mu : Mut (H x)) (he : e = x \/ H e = some (.own x)) (k : ∀ b u, b ≠ e -> h.get? b = some u -> h'.get? b = some u) (heo : ∃ u, h'.get? e = some u) : Un fs ex H (upd H x o) h h' := by
 have hx : ∀ b, H b = none -> b ≠ x := λ b n z => by subst z; rw [n] at mu; exact mu
 have hb : ∀ b, H b = none -> b ≠ e := λ b n z => by
  subst z
  rcases he with r | r
  ·exact hx b n r
  ·rw [n] at r; cases r
 have hm : ∀ b u, H b = some u -> ¬ Mut (some u) -> b ≠ x := λ b u q nm z => by subst z; rw [q] at mu; exact nm mu
 refine ⟨λ b u q n _ _ => k b u (hb b n) q, λ b u q n _ _ => ⟨u.slots, k b u (hb b n) q⟩, λ b u q n _ => by rw [q0z (hx b n)]; exact n, λ b u q _ => ?_,
  λ b xs q => by rw [q0z (hm b _ q λ z => z)]; exact q, λ b u xs q => by rw [q0z (hm b _ q λ z => z)]; exact q, λ b ps q => ⟨#[], by rw [q0z (hm b _ q λ z => z), q]; simp⟩⟩
 by_cases hbe : b = e
 ·subst hbe; exact heo
 ·exact ⟨u, k b u hbe q⟩
end
noncomputable def trk (h : Heap) (H : Hp) : List Addr := (List.range h.objs.size).filter λ a => (H a).isSome
noncomputable def hidT (h : Heap) (H : Hp) : Heap := PySem.W.hideAll h (trk h H)
theorem q9W (h : Heap) (H : Hp) : (hidT h H).objs.size = h.objs.size := PySem.W.hideAll_size _ _
theorem z1p {h : Heap} {H : Hp} {b : Addr} {o : Obj} (e : h.get? b = some o) (n : H b = none) : (hidT h H).get? b = some o :=
 PySem.W.hideAll_get _ e λ hm => by
  have q : (H b).isSome = true := (List.mem_filter.mp hm).2
  rw [n] at q; simp at q
theorem z3i {h : Heap} {H : Hp} {b : Addr} {o : Obj} (e : (hidT h H).get? b = some o) : h.get? b = some o /\ H b = none := by
 have e' : h.get? b = some o := PySem.W.of_hideAll (trk h H) e
 refine ⟨e', ?_⟩
 cases q : H b with
 | none => rfl
 | some x =>
  have hm : b ∈ trk h H := List.mem_filter.mpr ⟨List.mem_range.mpr (Heap.lt_size e'), by simp [q]⟩
  have z : (hidT h H).get? b = none := PySem.W.hideAll_none (trk h H) hm
  rw [z] at e; cases e
noncomputable def z2J (g h : Heap) (L : Addr) : List (Addr × Obj) := (List.range h.objs.size).filterMap λ a => if a = L \/ (g.get? a).isSome = true then none else (h.get? a).map λ o => (a, o)
noncomputable def rest (g h : Heap) (L d : Addr) : List (Addr × Obj) := (z2J g h L).filter λ p => decide (p.1 ≠ d)
end L2
namespace L2
open PySem PySem.Spec PyProof.Rows
structure Mod (K : PySem.W.Frag) (mg : Str -> Option Value) (base : Heap) : Prop where
 kin : K.In base
 glob : base.Ns mainGlobals mg
 blt : ∃ mb, base.Ns builtinsNs mb /\ ∀ x : Str, x ≠ "__name__" -> mb x = bootBuiltins x
 nolimit : base.NoLimit
structure Cx where
 prog : Program
 w : World
 K : PySem.W.Frag
 mg : Str -> Option Value
 base : Heap
 A : Around
 N : List Str
 s₀ : Shared
 H₀ : Hp
 env : Env
 outer : List Env
 stack : List Env
 ex : List Addr
 fn : Str -> Bool
 calm : Bool
 pn : List (Addr × Obj)
 xe : Value -> Shared -> Prop
noncomputable def frs (l : List Env) : List Addr := l.filterMap (·.frame)
noncomputable abbrev Cx.fs (X : Cx) : List Addr := frs X.outer
noncomputable def Vis (sc : Scope) (x : Str) : Prop := sc.names.lookup x = some .local \/ sc.names.lookup x = some .cell \/ sc.names.lookup x = some .free
noncomputable def Loc (sc : Scope) (x : Str) : Prop := sc.names.lookup x = some .local \/ sc.names.lookup x = some .cell
noncomputable def Look (env : Env) (h : Heap) (m : Str -> Option Value) (x : Str) (u : Value) : Prop :=
 (env.kindOf x = some .local /\ m x = some u) \/ ((env.kindOf x = some .cell \/ env.kindOf x = some .free) /\ ∃ c, env.cells.lookup x = some c /\ h.IsCell c (some u))
structure Cx.Ok (X : Cx) : Prop where
 mod : Mod X.K X.mg X.base
 kind : X.env.scope.kind = .function
 glob : X.env.globals = mainGlobals
 blt : X.env.builtins = builtinsNs
 above : X.s₀.heap.objs.size <= X.env.locals
 inj : ∀ x y c, X.env.cells.lookup x = some c -> X.env.cells.lookup y = some c -> x = y
 has : ∀ x, (X.env.kindOf x = some .cell \/ X.env.kindOf x = some .free) -> ∃ c, X.env.cells.lookup x = some c
 cab : ∀ x c, X.fn x = true -> X.env.cells.lookup x = some c -> X.s₀.heap.objs.size <= c
 hd : X.calm = true -> X.A.handled = none
 frames : X.A.frames = some X.stack
 stk : X.stack = X.outer \/ (X.stack = X.env :: X.outer /\ X.env.frame = some X.env.locals)
 exf : ∀ b ∈ X.ex, b ≠ X.env.locals /\ ∀ x c, X.env.cells.lookup x = some c -> c ≠ b
 bs : ∀ b o, X.base.get? b = some o -> X.s₀.heap.get? b = some o /\ X.H₀ b = none
 bsz : X.base.objs.size <= X.s₀.heap.objs.size
 noex : ∀ b o, X.base.get? b = some o -> b ∉ X.ex
 exfs : ∀ b ∈ X.ex, b ∉ X.fs
 funs : X.s₀.heap.FunFrames X.base X.outer
 frf : ∀ b ∈ X.fs, X.H₀ b = none
structure Inv (X : Cx) (pins : List (Addr × Obj)) (σ : List (Option V)) (H : Hp) (s : Shared) : Prop where
 ok : X.Ok
 os : s.os = X.s₀.os
 bare : AllBare s.gens
 base : Un X.fs X.ex X.H₀ H X.s₀.heap s.heap
 loc : ∃ m, s.heap.Ns X.env.locals m /\ ∀ (i : Nat) (x : Str) (v : V), X.N[i]? = some x -> σ[i]? = some (some v) -> Vis X.env.scope x -> ∃ u, RelV v u /\ Look X.env s.heap m x u
 cell : ∀ x c, X.env.cells.lookup x = some c -> ∃ v, s.heap.IsCell c v
 free : H X.env.locals = none
 freeC : ∀ x c, X.env.cells.lookup x = some c -> H c = none
 pin : ∀ p ∈ X.pn ++ pins, s.heap.get? p.1 = some p.2 /\ H p.1 = none /\ p.1 ≠ X.env.locals /\ p.1 ∉ X.fs /\ ∀ v, p.2.data ≠ .cell v
 hok : HOk X.prog X.w H s.heap
 len : σ.length = X.N.length
section
variable {X : Cx} {pins : List (Addr × Obj)} {σ : List (Option V)} {H H' : Hp} {s : Shared} {h' : Heap}
theorem Cx.Ok.nofr (ok : X.Ok) {b : Addr} {o : Obj} (e : X.base.get? b = some o) : b ∉ X.fs := λ hb => by
 have := (ok.funs.mem hb).1
 rw [e] at this; cases this
theorem Inv.bs (I : Inv X pins σ H s) : ∀ b o, X.base.get? b = some o -> s.heap.get? b = some o /\ H b = none := λ b o e =>
 ⟨I.base.keep b o (I.ok.bs b o e).1 (I.ok.bs b o e).2 (I.ok.nofr e) (I.ok.noex b o e), I.base.free b o (I.ok.bs b o e).1 (I.ok.bs b o e).2 (I.ok.noex b o e)⟩
theorem Inv.bk (I : Inv X pins σ H s) : ∀ b o, X.base.get? b = some o -> s.heap.get? b = some o := λ b o e => (I.bs b o e).1
theorem Inv.mod (I : Inv X pins σ H s) : Mod X.K X.mg X.base := I.ok.mod
theorem Inv.kIn (I : Inv X pins σ H s) : X.K.In s.heap := I.ok.mod.kin.keeps I.bk
theorem Inv.lt (I : Inv X pins σ H s) : X.env.locals < s.heap.objs.size := let ⟨_, hn, _⟩ := I.loc; hn.lt
theorem Inv.sz (I : Inv X pins σ H s) : X.s₀.heap.objs.size <= s.heap.objs.size := Nat.le_trans I.ok.above (Nat.le_of_lt I.lt)
theorem Inv.nofs (I : Inv X pins σ H s) {a : Addr} (h : s.heap.objs.size <= a) : a ∉ X.fs := λ hb => by
 obtain ⟨_, o, ho, _⟩ := I.ok.funs.mem hb
 exact absurd (Nat.lt_of_lt_of_le (Heap.lt_size ho) (Nat.le_trans I.sz h)) (Nat.lt_irrefl _)
theorem Inv.cne (I : Inv X pins σ H s) : ∀ x c, X.env.cells.lookup x = some c -> c ≠ X.env.locals := λ x c e z => by
 obtain ⟨v, o, ho, hd⟩ := I.cell x c e
 obtain ⟨m, ⟨o', es, ep, ho', hd', _⟩, _⟩ := I.loc
 rw [z, ho'] at ho; cases ho; rw [hd'] at hd; cases hd
theorem Inv.funs (I : Inv X pins σ H s) : s.heap.FunFrames X.base X.outer := by
 have all : ∀ (l : List Env), (∀ b ∈ frs l, b ∈ X.fs) -> X.s₀.heap.FunFrames X.base l -> s.heap.FunFrames X.base l := by
  intro l
  induction l with
  | nil => intro _ _; trivial
  | cons env r ih =>
   intro hs hl
   obtain ⟨hk, ⟨L, o, hf, hn, ho, hd⟩, hr⟩ := hl
   have hL : L ∈ X.fs := hs L (by unfold frs; rw [List.filterMap_cons, hf]; exact List.mem_cons_self)
   obtain ⟨sl, e⟩ := I.base.slot L o ho (I.ok.frf L hL) hL λ z => I.ok.exfs L z hL
   exact ⟨hk, ⟨L, _, hf, hn, e, hd⟩, ih (λ b hb => hs b (by unfold frs; rw [List.filterMap_cons, hf]; exact List.mem_cons_of_mem _ hb)) hr⟩
 exact all X.outer (λ _ hb => hb) I.ok.funs
theorem Inv.stack (I : Inv X pins σ H s) : s.heap.FunFrames X.base X.stack := by
 rcases I.ok.stk with e | ⟨e, hf⟩
 ·rw [e]; exact I.funs
 ·rw [e]
  obtain ⟨m, hn, _⟩ := I.loc
  refine .cons (by rw [I.ok.kind]; decide) hf hn ?_ I.funs
  exact Heap.get?_none_of_le (Nat.le_trans I.ok.bsz I.ok.above)
theorem Inv.stkSub (I : Inv X pins σ H s) : ∀ b ∈ frs X.stack, b ∈ X.env.locals :: X.fs := λ b hb => by
 rcases I.ok.stk with e | ⟨e, hf⟩
 ·rw [e] at hb; exact List.mem_cons_of_mem _ hb
 ·rw [e] at hb
  unfold frs at hb
  rw [List.filterMap_cons, hf] at hb
  exact hb
theorem Inv.stkFree (I : Inv X pins σ H s) : ∀ b ∈ frs X.stack, H b = none := λ b hb => by
 rcases List.mem_cons.mp (I.stkSub b hb) with e | hb
 ·rw [e]; exact I.free
 ·obtain ⟨_, o, ho, _⟩ := I.ok.funs.mem hb
  exact I.base.free b o ho (I.ok.frf b hb) λ z => I.ok.exfs b z hb
theorem Inv.step {g' : Array GenState} {t' : Nat} {d' : Drawn} {ch : List Addr} (I : Inv X pins σ H s)
  (hch : ∀ b ∈ ch, (b ∈ X.ex \/ X.s₀.heap.objs.size <= b) /\ b ≠ X.env.locals /\ (∀ x c, X.env.cells.lookup x = some c -> c ≠ b) /\ ∀ p ∈ X.pn ++ pins, p.1 ≠ b)
  (keep : ∀ b o, b ≠ X.env.locals -> b ∉ X.fs -> b ∉ ch -> s.heap.get? b = some o -> H b = none -> h'.get? b = some o)
  (slot : ∀ b o, b ≠ X.env.locals -> b ∈ X.fs -> b ∉ ch -> s.heap.get? b = some o -> H b = none -> ∃ sl, h'.get? b = some { o with slots := sl }) (free : ∀ b o, b ∉ ch -> s.heap.get? b = some o -> H b = none -> H' b = none)
  (there : ∀ b o, b ∉ ch -> s.heap.get? b = some o -> ∃ o', h'.get? b = some o')
  (tups : ∀ b xs, H b = some (.tup xs) -> H' b = some (.tup xs)) (frzs : ∀ b o u, H b = some (.frz o u) -> H' b = some (.frz o u)) (tbls : ∀ b ps, H b = some (.tbl ps) -> ∃ more, H' b = some (.tbl (ps ++ more)))
  (ns : ∀ m, s.heap.Ns X.env.locals m -> h'.Ns X.env.locals m) (hok : HOk X.prog X.w H' h') (hg : AllBare g') :
  Inv X pins σ H' { s with heap := h', gens := g', drawn := d', toks := t' } := by
 have neL : ∀ b o, X.s₀.heap.get? b = some o -> b ≠ X.env.locals := λ b o e => Nat.ne_of_lt (Nat.lt_of_lt_of_le (Heap.lt_size e) I.ok.above)
 have neC : ∀ b o, X.s₀.heap.get? b = some o -> b ∉ X.ex -> b ∉ ch := λ b o e hx hb => by
  rcases (hch b hb).1 with z | z
  ·exact hx z
  ·exact absurd (Nat.lt_of_lt_of_le (Heap.lt_size e) z) (Nat.lt_irrefl _)
 have cellK : ∀ x c, X.env.cells.lookup x = some c -> ∀ v, s.heap.IsCell c v -> h'.IsCell c v := λ x c e v ⟨o, ho, hd⟩ => by
  have nch : c ∉ ch := λ z => (hch c z).2.2.1 x c e rfl
  by_cases hc : c ∈ X.fs
  ·obtain ⟨sl, q⟩ := slot c o (I.cne x c e) hc nch ho (I.freeC x c e)
   exact ⟨_, q, hd⟩
  ·exact ⟨o, keep c o (I.cne x c e) hc nch ho (I.freeC x c e), hd⟩
 refine ⟨I.ok, I.os, hg, ⟨λ b o e n hb hx => ?_, λ b o e n hb hx => ?_, λ b o e n hx => ?_, λ b o e hx => ?_, λ b xs e => tups b xs (I.base.tups b xs e), λ b o xs e => frzs b o xs (I.base.frzs b o xs e), λ b ps e => ?_⟩, ?_, λ x c e => ?_, ?_, λ x c e => ?_, λ p hp => ?_, hok, I.len⟩
 ·exact keep b o (neL b o e) hb (neC b o e hx) (I.base.keep b o e n hb hx) (I.base.free b o e n hx)
 ·obtain ⟨sl, e1⟩ := I.base.slot b o e n hb hx
  obtain ⟨sl', e2⟩ := slot b _ (neL b o e) hb (neC b o e hx) e1 (I.base.free b o e n hx)
  exact ⟨sl', e2⟩
 ·obtain ⟨o', e1⟩ := I.base.there b o e hx
  exact free b o' (neC b o e hx) e1 (I.base.free b o e n hx)
 ·obtain ⟨o', e1⟩ := I.base.there b o e hx
  exact there b o' (neC b o e hx) e1
 ·obtain ⟨m1, e1⟩ := I.base.tbls b ps e
  obtain ⟨m2, e2⟩ := tbls b _ e1
  exact ⟨m1 ++ m2, by rw [e2, Array.append_assoc]⟩
 ·obtain ⟨m, hn, hl⟩ := I.loc
  refine ⟨m, ns m hn, λ i x v e1 e2 e3 => ?_⟩
  obtain ⟨u, r, l⟩ := hl i x v e1 e2 e3
  refine ⟨u, r, ?_⟩
  rcases l with l | ⟨k, c, e, z⟩
  ·exact .inl l
  ·exact .inr ⟨k, c, e, cellK x c e _ z⟩
 ·obtain ⟨v, z⟩ := I.cell x c e
  exact ⟨v, cellK x c e v z⟩
 ·obtain ⟨m, ⟨o, _, _, ho, _⟩, _⟩ := I.loc
  exact free _ o (λ z => (hch _ z).2.1 rfl) ho I.free
 ·obtain ⟨v, o, ho, hd⟩ := I.cell x c e
  exact free c o (λ z => (hch c z).2.2.1 x c e rfl) ho (I.freeC x c e)
 ·obtain ⟨e, n, ne, nf, d⟩ := I.pin p hp
  have nch : p.1 ∉ ch := λ z => (hch p.1 z).2.2.2 p hp rfl
  exact ⟨keep p.1 p.2 ne nf nch e n, free p.1 p.2 nch e n, ne, nf, d⟩
theorem Inv.un {t' : Nat} (I : Inv X pins σ H s) (u : Un X.fs [] H H' s.heap h') (hok : HOk X.prog X.w H' h') : Inv X pins σ H' { s with heap := h', toks := t' } := by
 obtain ⟨m, ⟨o, es, ep, ho, r⟩, _⟩ := id I.loc
 obtain ⟨sl, hL⟩ := u.any ho I.free (by simp)
 exact I.step (g' := s.gens) (d' := s.drawn) (ch := []) (λ _ z => nomatch z) (λ b o _ hb _ e n => u.keep b o e n hb (by simp)) (λ b o _ hb _ e n => u.slot b o e n hb (by simp)) (λ b o _ e n => u.free b o e n (by simp)) (λ b o _ e => u.there b o e (by simp)) u.tups u.frzs u.tbls (λ m' hm => by
  obtain ⟨o', es', ep', ho', r'⟩ := hm
  rw [ho] at ho'; cases ho'
  exact ⟨_, es', ep', hL, r'⟩) hok I.bare
theorem Inv.call {g' : Array GenState} {t' : Nat} {d' : Drawn} {ch : List Addr} (I : Inv X pins σ H s) (u : Un (frs X.stack) ch H H' s.heap h') (hok : HOk X.prog X.w H' h') (hg : AllBare g')
  (hch : ∀ b ∈ ch, (b ∈ X.ex \/ X.s₀.heap.objs.size <= b) /\ b ≠ X.env.locals /\ (∀ x c, X.env.cells.lookup x = some c -> c ≠ b) /\ ∀ p ∈ X.pn ++ pins, p.1 ≠ b) :
  Inv X pins σ H' { s with heap := h', gens := g', drawn := d', toks := t' } := by
 obtain ⟨m, ⟨o, es, ep, ho, r⟩, _⟩ := id I.loc
 obtain ⟨sl, hL⟩ := u.any ho I.free λ z => (hch _ z).2.1 rfl
 exact I.step (ch := ch) hch (λ b o hL hb hc e n => u.keep b o e n (λ z => (List.mem_cons.mp (I.stkSub b z)).elim hL hb) hc) (λ b o _ _ hc e n => u.any e n hc) (λ b o hc e n => u.free b o e n hc) (λ b o hc e => u.there b o e hc) u.tups u.frzs u.tbls (λ m' hm => by
  obtain ⟨o', es', ep', ho', r'⟩ := hm
  rw [ho] at ho'; cases ho'
  exact ⟨_, es', ep', hL, r'⟩) hok hg
theorem Inv.turned {t' : Nat} {it : Addr} (I : Inv X pins σ H s) (k : ∀ b o, b ≠ it -> s.heap.get? b = some o -> h'.get? b = some o) (hn : H it = none) (hL : it ≠ X.env.locals)
  (h1 : it ∈ X.ex \/ X.s₀.heap.objs.size <= it) (h2 : ∀ x c, X.env.cells.lookup x = some c -> c ≠ it) (h3 : ∀ p ∈ X.pn ++ pins, p.1 ≠ it) : Inv X pins σ H { s with heap := h', toks := t' } := by
 have nit : ∀ b u, H b = some u -> b ≠ it := λ b u e z => by rw [z, hn] at e; cases e
 refine I.step (g' := s.gens) (d' := s.drawn) (ch := [it]) (λ b hb => ?_) (λ b o _ _ hc e _ => k b o (λ z => hc (by simp [z])) e) (λ b o _ _ hc e _ => ⟨o.slots, k b o (λ z => hc (by simp [z])) e⟩) (λ _ _ _ _ n => n)
  (λ b o hc e => ⟨o, k b o (λ z => hc (by simp [z])) e⟩) (λ _ _ e => e) (λ _ _ _ e => e) (λ b ps e => ⟨#[], by rw [e]; simp⟩) (λ m hm => ?_) (λ b u e => ?_) I.bare
 ·have e : b = it := by simpa using hb
  subst e
  exact ⟨h1, hL, h2, h3⟩
 ·obtain ⟨o, es, ep, ho, r⟩ := hm
  exact ⟨o, es, ep, k _ o (Ne.symm hL) ho, r⟩
 ·refine (I.hok b u e).stay (λ c v hc q => k c v ?_ q) (λ _ q => q) λ _ _ q => q
  rcases hc with z | z
  ·rw [z]; exact nit b u e
  ·exact nit c _ z
theorem Inv.tok (I : Inv X pins σ H s) (t : Nat) : Inv X pins σ H { s with toks := t } := I.un (h' := s.heap) (t' := t) Un.refl I.hok
theorem Inv.kept {t' : Nat} (I : Inv X pins σ H s) (k : ∀ b u, s.heap.get? b = some u -> h'.get? b = some u) : Inv X pins σ H { s with heap := h', toks := t' } := I.un (Un.kept k) (I.hok.kept k)
theorem Inv.laid {a : Addr} {o : HO} {t' : Nat} (I : Inv X pins σ H s) (k : ∀ b u, s.heap.get? b = some u -> h'.get? b = some u) (hp : s.heap.objs.size <= a) (new : q1V X.prog X.w (upd H a o) h' a o) :
  Inv X pins σ (upd H a o) { s with heap := h', toks := t' } := I.un (Un.laid k hp (I.hok.fresh hp)) (I.hok.laid k hp new)
theorem Inv.write {x e : Addr} {o : HO} {t' : Nat} (I : Inv X pins σ H s) (mu : Mut (H x)) (he : e = x \/ H e = some (.own x)) (k : ∀ b u, b ≠ e -> s.heap.get? b = some u -> h'.get? b = some u) (heo : ∃ u, h'.get? e = some u)
  (new : q1V X.prog X.w (upd H x o) h' x o) : Inv X pins σ (upd H x o) { s with heap := h', toks := t' } := I.un (Un.write mu he k heo) (I.hok.write mu he k heo new)
theorem Inv.pins_of {pins' : List (Addr × Obj)} (I : Inv X pins σ H s) (h : ∀ p ∈ pins', s.heap.get? p.1 = some p.2 /\ H p.1 = none /\ p.1 ≠ X.env.locals /\ p.1 ∉ X.fs /\ ∀ v, p.2.data ≠ .cell v) : Inv X pins' σ H s :=
 ⟨I.ok, I.os, I.bare, I.base, I.loc, I.cell, I.free, I.freeC, λ p hp => (List.mem_append.mp hp).elim (λ z => I.pin p (List.mem_append_left _ z)) (h p), I.hok, I.len⟩
theorem q5g {N : List Str} (hN : N.Nodup) {i j : Nat} {x : Str} (a : N[i]? = some x) (b : N[j]? = some x) : i = j := by
 obtain ⟨h1, e1⟩ := List.getElem?_eq_some_iff.mp a
 obtain ⟨h2, e2⟩ := List.getElem?_eq_some_iff.mp b
 exact (List.getElem_inj hN).mp (e1.trans e2.symm)
theorem q5L {M : Model} {A : Around} {E : Value -> Shared -> Prop} {i : Nat} {x : Str} {v : V} {u : Value} {Q : Unit -> Shared -> Prop} (I : Inv X pins σ H s) (hN : X.N.Nodup) (hi : X.N[i]? = some x) (hx : Loc X.env.scope x) (r : RelV v u)
  (h : ∀ s', Inv X pins (σ.set i (some v)) H s' -> (∃ a, Heap.SameBut a s.heap s'.heap /\ (a = X.env.locals \/ X.env.cells.lookup x = some a)) -> Q () s') (hf : X.fn x = true \/ X.env.scope.names.lookup x = some .local := by first | exact .inl rfl | exact .inr rfl | assumption) : wpAny M A (storeName X.env x u) Q E s := by
 obtain ⟨m, hn, hl⟩ := id I.loc
 have hcls : (X.env.scope.kind == .class || (X.env.scope.kind == .module && X.env.locals != X.env.globals)) = false := by rw [I.ok.kind]; rfl
 have hiσ : i < σ.length := by rw [I.len]; exact (List.getElem?_eq_some_iff.mp hi).1
 have cne := I.cne
 have tracked : ∀ {a : Addr} {h' : Heap}, (∃ o, s.heap.get? a = some o /\ H a = none) -> Heap.SameBut a s.heap h' -> HOk X.prog X.w H h' := λ {a h'} ha hs b ob e => by
  obtain ⟨_, _, hfree⟩ := ha
  refine (I.hok b ob e).stay (λ c w' hc q => (hs.2 c ?_).trans q) (λ _ q => q) λ _ _ q => q
  rintro rfl
  rcases hc with rfl | hc
  ·rw [hfree] at e; cases e
  ·rw [hfree] at hc; cases hc
 rcases hx with hk | hk
 ·refine wpAny_storeName_local hk hn (λ h' hn' hs => ?_) hcls
  obtain ⟨oL, _, _, hoL, _⟩ := id hn
  refine h _ ⟨I.ok, I.os, I.bare, ⟨λ b o e n hb hx => ?_, λ b o e n hb hx => ?_, I.base.free, λ b o e hx => ?_, I.base.tups, I.base.frzs, I.base.tbls⟩, ⟨_, hn', λ j y v' e1 e2 e3 => ?_⟩, λ y c e => ?_, I.free, I.freeC, λ p hp => ?_, tracked ⟨oL, hoL, I.free⟩ hs, by simpa using I.len⟩ ⟨_, hs, .inl rfl⟩
  ·exact (hs.2 b (Nat.ne_of_lt (Nat.lt_of_lt_of_le (Heap.lt_size e) I.ok.above))).trans (I.base.keep b o e n hb hx)
  ·obtain ⟨sl, e1⟩ := I.base.slot b o e n hb hx
   exact ⟨sl, (hs.2 b (Nat.ne_of_lt (Nat.lt_of_lt_of_le (Heap.lt_size e) I.ok.above))).trans e1⟩
  ·obtain ⟨o', e1⟩ := I.base.there b o e hx
   exact ⟨o', (hs.2 b (Nat.ne_of_lt (Nat.lt_of_lt_of_le (Heap.lt_size e) I.ok.above))).trans e1⟩
  ·by_cases hj : j = i
   ·subst hj
    rw [hi] at e1; cases e1
    rw [List.getElem?_set_self hiσ] at e2
    cases e2
    exact ⟨u, r, .inl ⟨hk, by simp⟩⟩
   ·rw [List.getElem?_set_ne (Ne.symm hj)] at e2
    obtain ⟨u', r', q⟩ := hl j y v' e1 e2 e3
    refine ⟨u', r', ?_⟩
    rcases q with ⟨k, e⟩ | ⟨k, c, e, z⟩
    ·refine .inl ⟨k, ?_⟩
     have : y ≠ x := λ e => hj (q5g hN e1 (e ▸ hi))
     simp [this, e]
    ·exact .inr ⟨k, c, e, z.sameBut hs (cne y c e)⟩
  ·obtain ⟨w', z⟩ := I.cell y c e
   exact ⟨w', z.sameBut hs (cne y c e)⟩
  ·obtain ⟨e, n, ne, nf, d⟩ := I.pin p hp
   exact ⟨(hs.2 p.1 ne).trans e, n, ne, nf, d⟩
 ·have hfn : X.fn x = true := by
   rcases hf with z | z
   ·exact z
   ·rw [z] at hk; cases hk
  obtain ⟨c, hc⟩ := I.ok.has x (.inl hk)
  obtain ⟨w', z⟩ := I.cell x c hc
  refine wpAny_storeName_cell I.ok.kind hk hc z (λ h' hc' hs => ?_)
  obtain ⟨oc, hoc, hocd⟩ := id z
  refine h { s with heap := h' } ⟨I.ok, I.os, I.bare, ⟨λ b o e n hb hx => ?_, λ b o e n hb hx => ?_, I.base.free, λ b o e hx => ?_, I.base.tups, I.base.frzs, I.base.tbls⟩, ⟨m, hn.sameBut hs (Ne.symm (cne x c hc)), λ j y v' e1 e2 e3 => ?_⟩, λ y c' e => ?_, I.free, I.freeC, λ p hp => ?_, tracked ⟨oc, hoc, I.freeC x c hc⟩ hs, by simpa using I.len⟩ ⟨c, hs, .inr hc⟩
  ·exact (hs.2 b (Nat.ne_of_lt (Nat.lt_of_lt_of_le (Heap.lt_size e) (I.ok.cab x c hfn hc)))).trans (I.base.keep b o e n hb hx)
  ·obtain ⟨sl, e1⟩ := I.base.slot b o e n hb hx
   exact ⟨sl, (hs.2 b (Nat.ne_of_lt (Nat.lt_of_lt_of_le (Heap.lt_size e) (I.ok.cab x c hfn hc)))).trans e1⟩
  ·obtain ⟨o', e1⟩ := I.base.there b o e hx
   exact ⟨o', (hs.2 b (Nat.ne_of_lt (Nat.lt_of_lt_of_le (Heap.lt_size e) (I.ok.cab x c hfn hc)))).trans e1⟩
  ·by_cases hj : j = i
   ·subst hj
    rw [hi] at e1; cases e1
    rw [List.getElem?_set_self hiσ] at e2
    cases e2
    exact ⟨u, r, .inr ⟨.inl hk, c, hc, hc'⟩⟩
   ·rw [List.getElem?_set_ne (Ne.symm hj)] at e2
    obtain ⟨u', r', q⟩ := hl j y v' e1 e2 e3
    refine ⟨u', r', ?_⟩
    rcases q with q | ⟨k, c', e, z'⟩
    ·exact .inl q
    ·refine .inr ⟨k, c', e, z'.sameBut hs ?_⟩
     rintro rfl
     exact hj (q5g hN e1 (I.ok.inj _ _ _ e hc ▸ hi))
  ·by_cases hcc : c' = c
   ·subst hcc; exact ⟨_, hc'⟩
   ·obtain ⟨w2, z2⟩ := I.cell y c' e
    exact ⟨w2, z2.sameBut hs hcc⟩
  ·obtain ⟨e, n, ne, nf, d⟩ := I.pin p hp
   refine ⟨(hs.2 p.1 ?_).trans e, n, ne, nf, d⟩
   intro q
   rw [q, hoc] at e
   have q' : oc = p.2 := Option.some.inj e
   exact d w' (by rw [← q']; exact hocd)
theorem q7u {M : Model} {A : Around} {E : Value -> Shared -> Prop} {i : Nat} {x : Str} {v : V} {u : Value} {Q : Unit -> Shared -> Prop} (I : Inv X pins σ H s) (hN : X.N.Nodup) (hi : X.N[i]? = some x) (hx : Loc X.env.scope x) (r : RelV v u)
  (h : ∀ s', Inv X pins (σ.set i (some v)) H s' -> Q () s') (hf : X.fn x = true \/ X.env.scope.names.lookup x = some .local := by first | exact .inl rfl | exact .inr rfl | assumption) : wpAny M A (storeName X.env x u) Q E s :=
 q5L I hN hi hx r (λ s' I' _ => h s' I') hf
theorem Inv.call' {s' : Shared} {ch : List Addr} (I : Inv X pins σ H s) (ho : s'.os = s.os) (u : Un (frs X.stack) ch H H' s.heap s'.heap) (hok : HOk X.prog X.w H' s'.heap) (hg : AllBare s'.gens)
  (hch : ∀ b ∈ ch, (b ∈ X.ex \/ X.s₀.heap.objs.size <= b) /\ b ≠ X.env.locals /\ (∀ x c, X.env.cells.lookup x = some c -> c ≠ b) /\ ∀ p ∈ X.pn ++ pins, p.1 ≠ b) : Inv X pins σ H' s' := by
 obtain ⟨h', g', d', t', o'⟩ := s'
 have e : o' = s.os := ho
 subst e
 exact I.call (g' := g') (t' := t') (d' := d') u hok hg hch
end
noncomputable abbrev XK := Value -> Option Addr -> Hp -> Prop
noncomputable abbrev St := List (Option V)
noncomputable abbrev VK := V -> Hp -> Prop
noncomputable abbrev TE := St -> Hp -> VK -> Prop
noncomputable abbrev TT := St -> Hp -> (Bool -> Hp -> Prop) -> Prop
noncomputable abbrev TA := St -> Hp -> (List V -> Hp -> Prop) -> Prop
structure Ends where
 nx : St -> Hp -> Prop
 rt : VK
 bk : St -> Hp -> Prop := λ _ _ => False
 ct : St -> Hp -> Prop := λ _ _ => False
noncomputable abbrev TS := Ends -> St -> Hp -> Prop
noncomputable def EP (X : Cx) (pins : List (Addr × Obj)) (σ : St) (Q : VK) (u : Value) (s' : Shared) : Prop := ∃ v H', Inv X pins σ H' s' /\ RelV v u /\ Q v H'
noncomputable def TP (X : Cx) (pins : List (Addr × Obj)) (σ : St) (Q : Bool -> Hp -> Prop) (b : Bool) (s' : Shared) : Prop := ∃ H', Inv X pins σ H' s' /\ Q b H'
noncomputable def AP (X : Cx) (pins : List (Addr × Obj)) (σ : St) (Q : List V -> Hp -> Prop) (us : List Value) (s' : Shared) : Prop := ∃ vs H', Inv X pins σ H' s' /\ Vals vs us /\ Q vs H'
noncomputable def SP (X : Cx) (pins : List (Addr × Obj)) (D : Ends) (f : Flow) (s' : Shared) : Prop :=
 match f with
 | .next => ∃ σ' H', Inv X pins σ' H' s' /\ D.nx σ' H'
 | .brk => ∃ σ' H', Inv X pins σ' H' s' /\ D.bk σ' H'
 | .cont => ∃ σ' H', Inv X pins σ' H' s' /\ D.ct σ' H'
 | .ret u => ∃ v σ' H', Inv X pins σ' H' s' /\ RelV v u /\ D.rt v H'
noncomputable def PE (X : Cx) (e : Expr) (t : TE) : Prop :=
 ∀ (pins : List (Addr × Obj)) (s : Shared) (σ : St) (H : Hp) (Q : VK), Inv X pins σ H s -> t σ H Q -> wpAny (model X.prog X.w) X.A (eval e X.env) (EP X pins σ Q) X.xe s
noncomputable def PT (X : Cx) (e : Expr) (t : TT) : Prop :=
 ∀ (pins : List (Addr × Obj)) (s : Shared) (σ : St) (H : Hp) (Q : Bool -> Hp -> Prop), Inv X pins σ H s -> t σ H Q -> wpAny (model X.prog X.w) X.A (isTrue e X.env (eval e X.env)) (TP X pins σ Q) X.xe s
noncomputable def PW (X : Cx) (e : Expr) (t : TT) : Prop :=
 ∀ (whole : Sem Value) (pins : List (Addr × Obj)) (s : Shared) (σ : St) (H : Hp) (Q : Bool -> Hp -> Prop), Inv X pins σ H s -> t σ H Q -> wpAny (model X.prog X.w) X.A (isTrue e X.env whole) (TP X pins σ Q) X.xe s
theorem PW.pt {X : Cx} {e : Expr} {t : TT} (h : PW X e t) : PT X e t := h _
noncomputable def PA (X : Cx) (es : List Expr) (t : TA) : Prop :=
 ∀ (pos : Pos) (pins : List (Addr × Obj)) (s : Shared) (σ : St) (H : Hp) (Q : List V -> Hp -> Prop), Inv X pins σ H s -> t σ H Q -> wpAny (model X.prog X.w) X.A (spliced (backTo pos (starEach es X.env))) (AP X pins σ Q) X.xe s
noncomputable def PS (X : Cx) (st : Stmt) (t : TS) : Prop :=
 ∀ (pins : List (Addr × Obj)) (s : Shared) (σ : St) (H : Hp) (D : Ends), Inv X pins σ H s -> t D σ H -> wpAny (model X.prog X.w) X.A (exec st X.env) (SP X pins D) X.xe s
noncomputable def PSs (X : Cx) (st : List Stmt) (t : TS) : Prop :=
 ∀ (pins : List (Addr × Obj)) (s : Shared) (σ : St) (H : Hp) (D : Ends), Inv X pins σ H s -> t D σ H -> wpAny (model X.prog X.w) X.A (execs st X.env) (SP X pins D) X.xe s
theorem thn {α : Type} {t : Sem α} {Q Q' : α -> Shared -> Prop} {M : Model} {A : Around} {E : Value -> Shared -> Prop} {s : Shared} (h : wpAny M A t Q E s) (hQ : ∀ a s, Q a s -> Q' a s) : wpAny M A t Q' E s := wpAny_mono h hQ λ _ _ x => x
end L2
namespace L2
open PySem PySem.Spec PyProof.Rows
section
variable {X : Cx}
theorem bin {a b : Expr} {ta tb : TE} (ha : PE X a ta) (hb : PE X b tb) {pins : List (Addr × Obj)} {s : Shared} {σ : St} {H : Hp} {R : V -> V -> Hp -> Prop} (I : Inv X pins σ H s) (h : ta σ H λ x H1 => tb σ H1 λ y H2 => R x y H2)
  {α : Type} {Q : α -> Shared -> Prop} {f : Value -> Value -> Sem α}
  (hf : ∀ v u s2 x y H2, Inv X pins σ H2 s2 -> RelV x v -> RelV y u -> R x y H2 -> wpAny (model X.prog X.w) X.A (f v u) Q X.xe s2) :
  wpAny (model X.prog X.w) X.A (eval a X.env) (λ v s₁ => wpAny (model X.prog X.w) X.A (eval b X.env) (λ u s₂ => wpAny (model X.prog X.w) X.A (f v u) Q X.xe s₂) X.xe s₁) X.xe s := by
 refine thn (ha pins s σ H _ I h) λ v s1 ⟨x, H1, I1, r1, q1⟩ => ?_
 refine thn (hb pins s1 σ H1 _ I1 q1) λ u s2 ⟨y, H2, I2, r2, q2⟩ => ?_
 exact hf v u s2 x y H2 I2 r1 r2 q2
noncomputable def tVar (i : Nat) : TE := λ σ H Q => ∃ v, σ[i]? = some (some v) /\ Q v H
noncomputable def tC (v : V) : TE := λ _ H Q => Q v H
theorem q9L {i : Nat} {x : Str} {pos : Pos} (hN : X.N[i]? = some x) (hv : Vis X.env.scope x) (hd : (x == ("__debug__" : Str)) = false := by decide) (hcd : (x == ("__classdict__" : Str)) = false := by decide) : PE X (.Name x pos) (tVar i) := by
 intro pins s σ H Q I h
 obtain ⟨v, e, h⟩ := h
 obtain ⟨m, hn, hl⟩ := I.loc
 obtain ⟨u, r, l⟩ := hl i x v hN e hv
 have fin : EP X pins σ Q u s := ⟨v, H, I, r, h⟩
 rcases l with ⟨hk, hm⟩ | ⟨hk, c, hc, hcell⟩
 ·exact wpAny_Name (wpAny_loadName_local I.ok.kind hk hn hm fin) hd
 ·rcases hk with hk | hk
  ·exact wpAny_Name (wpAny_loadName_cell I.ok.kind hk hc hcell fin) hd
  ·exact wpAny_Name (wpAny_loadName_free I.ok.kind hk hc hcell fin hcd) hd
theorem z5K {i j pos} : PE X (.Constant (.int i) j pos) (tC (.int i)) := λ _ _ _ H _ I h => wpAny_Constant_int ⟨.int i, H, I.tok _, ⟨_, rfl⟩, h⟩
theorem z6J {b j pos} : PE X (.Constant (.bool b) j pos) (tC (.bl b)) := λ _ _ _ H _ I h => Constant_bool ⟨.bl b, H, I, rfl, h⟩
theorem z5X {j pos} : PE X (.Constant .none j pos) (tC .non) := λ _ _ _ H _ I h => Constant_none ⟨.non, H, I, rfl, h⟩
theorem z5M {x j pos} : PE X (.Constant (.str x) j pos) (tC (.str x)) := λ _ _ _ H _ I h => Calls.Constant_str ⟨.str x, H, I.tok _, ⟨_, rfl⟩, h⟩
noncomputable def Gl (X : Cx) (x : Str) : Prop := X.env.kindOf x = some .globalImplicit
theorem q6C {E : Value -> Shared -> Prop} {pins : List (Addr × Obj)} {s : Shared} {σ : St} {H : Hp} {x : Str} {u : Value} {pos : Pos} {Q : Value -> Shared -> Prop} (I : Inv X pins σ H s) (hg : Gl X x) (hm : X.mg x = some u) (h : Q u s)
  (hd : (x == ("__debug__" : Str)) = false := by decide) : wpAny (model X.prog X.w) X.A (eval (.Name x pos) X.env) Q E s :=
 Calls.Name_function_global I.ok.kind hg (Calls.loadGlobal_global (by rw [I.ok.glob]; exact I.mod.glob.keeps I.bk) hm h) hd
theorem q3b {E : Value -> Shared -> Prop} {pins : List (Addr × Obj)} {s : Shared} {σ : St} {H : Hp} {x : Str} {u : Value} {pos : Pos} {Q : Value -> Shared -> Prop} (I : Inv X pins σ H s) (hg : Gl X x) (hm : X.mg x = none) (hv : bootBuiltins x = some u) (h : Q u s)
  (hn : x ≠ "__name__" := by decide) (hd : (x == ("__debug__" : Str)) = false := by decide) : wpAny (model X.prog X.w) X.A (eval (.Name x pos) X.env) Q E s := by
 obtain ⟨mb, h1, h2⟩ := I.mod.blt
 exact Calls.Name_function_global I.ok.kind hg (Calls.loadGlobal_builtin (by rw [I.ok.glob]; exact I.mod.glob.keeps I.bk) hm (by rw [I.ok.blt]; exact h1.keeps I.bk) ((h2 x hn).trans hv) h) hd
theorem q8K {x : Str} {v : V} {u : Value} {pos : Pos} (hg : Gl X x) (hm : X.mg x = some u) (r : RelV v u) (hd : (x == ("__debug__" : Str)) = false := by decide) : PE X (.Name x pos) (tC v) :=
 λ _ _ _ H _ I h => q6C I hg hm ⟨v, H, I, r, h⟩ hd
theorem z2u {x : Str} {v : V} {u : Value} {pos : Pos} (hg : Gl X x) (hm : X.mg x = none) (hv : bootBuiltins x = some u) (r : RelV v u) (hn : x ≠ "__name__" := by decide) (hd : (x == ("__debug__" : Str)) = false := by decide) : PE X (.Name x pos) (tC v) :=
 λ _ _ _ H _ I h => q3b I hg hm hv ⟨v, H, I, r, h⟩ hn hd
variable {a b : Expr} {ta tb : TE} {pos : Pos}
variable {tA tB' : TT} {rest : List Expr}
noncomputable def tAnd (t u : TT) : TT := λ σ H Q => t σ H λ c H1 => if c = true then u σ H1 Q else Q false H1
noncomputable def tOr (t u : TT) : TT := λ σ H Q => t σ H λ c H1 => if c = true then Q true H1 else u σ H1 Q
noncomputable def tNot (t : TT) : TT := λ σ H Q => t σ H λ c H1 => Q (!c) H1
theorem z3d (ha : PT X a tA) : PW X (.BoolOp .And [a] pos) tA := by
 intro wh pins s σ H Q I h
 refine isTrue_and (thn (ha pins s σ H Q I h) λ c s1 e => ?_)
 cases c with
 | true => exact isTrue_and_nil e
 | false => exact e
theorem z4h (ha : PT X a tA) : PW X (.BoolOp .Or [a] pos) tA := by
 intro wh pins s σ H Q I h
 refine isTrue_or (thn (ha pins s σ H Q I h) λ c s1 e => ?_)
 cases c with
 | false => exact isTrue_or_nil e
 | true => exact e
theorem q9b (ha : PT X a tA) (hb : PW X (.BoolOp .And (b :: rest) pos) tB') : PW X (.BoolOp .And (a :: b :: rest) pos) (tAnd tA tB') := by
 intro wh pins s σ H Q I h
 refine isTrue_and (thn (ha pins s σ H _ I h) λ c s1 ⟨H1, I1, q1⟩ => ?_)
 cases c with
 | true => exact hb wh pins s1 σ H1 Q I1 q1
 | false => exact ⟨H1, I1, q1⟩
theorem z2a (ha : PT X a tA) (hb : PW X (.BoolOp .Or (b :: rest) pos) tB') : PW X (.BoolOp .Or (a :: b :: rest) pos) (tOr tA tB') := by
 intro wh pins s σ H Q I h
 refine isTrue_or (thn (ha pins s σ H _ I h) λ c s1 ⟨H1, I1, q1⟩ => ?_)
 cases c with
 | true => exact ⟨H1, I1, q1⟩
 | false => exact hb wh pins s1 σ H1 Q I1 q1
theorem z1s (ha : PT X a tA) : PT X (.UnaryOp .Not a pos) (tNot tA) := by
 intro pins s σ H Q I h
 exact isTrue_not (ha pins s σ H (λ c H1 => Q (!c) H1) I h)
theorem z1P {op} {t : TE} (h : PE X a t) : PE X (.BoolOp op [a] pos) t := λ pins s σ H Q I hw => BoolOp_one (h pins s σ H Q I hw)
noncomputable def tIf (t : TT) (ta tb : TE) : TE := λ σ H Q => t σ H λ c H1 => if c = true then ta σ H1 Q else tb σ H1 Q
theorem q4T {c : Expr} (hc : PT X c tA) (ha : PE X a ta) (hb : PE X b tb) : PE X (.IfExp c a b pos) (tIf tA ta tb) := by
 intro pins s σ H Q I h
 refine wpAny_IfExp (thn (hc pins s σ H _ I h) λ d s1 ⟨H1, I1, q1⟩ => ?_)
 cases d with
 | true => exact ha pins s1 σ H1 Q I1 q1
 | false => exact hb pins s1 σ H1 Q I1 q1
end
end L2
namespace L2
open PySem PySem.Spec PyProof.Rows
noncomputable def SqL (K : PySem.W.Frag) (H : Hp) (a : Addr) (xs : List V) : Prop :=
 Rd H a (.lst xs) \/
  ∃ (o : Obj) (its : Array Value) (n : Nat), K.lookup a = some o /\ o.cls = .type "list" /\ o.dict = none /\ o.data = .seq its n /\ its.size <= sizeLine /\ Vals xs its.toList
noncomputable def SqT (K : PySem.W.Frag) (H : Hp) (a : Addr) (xs : List V) : Prop :=
 Rd H a (.tup xs) \/
  ∃ (o : Obj) (its : Array Value) (n : Nat), K.lookup a = some o /\ (o.cls = .type "tuple" /\ o.dict = none) /\ o.data = .seq its n /\ its.size <= sizeLine /\ Vals xs its.toList
noncomputable def absV : Value -> Option V
 | .none => some .non
 | .bool b => some (.bl b)
 | .int i _ => some (.int i)
 | .str x _ => some (.str x)
 | .bytes b _ => some (.byt b)
 | .float b _ => some (.flt b)
 | .ref a => some (.ref a)
 | .type n => some (.ty n)
 | _ => none
theorem RelV.abs {x : V} {u : Value} (r : RelV x u) : absV u = some x := by
 cases x with
 | non => cases r; rfl
 | bl _ => cases r; rfl
 | int _ => obtain ⟨t, rfl⟩ := r; rfl
 | str _ => obtain ⟨t, rfl⟩ := r; rfl
 | byt _ => obtain ⟨t, rfl⟩ := r; rfl
 | flt _ => obtain ⟨t, rfl⟩ := r; rfl
 | ref _ => cases r; rfl
 | ty _ => cases r; rfl
theorem RelV.inj {x y : V} {u : Value} (r : RelV x u) (q : RelV y u) : x = y := Option.some.inj (r.abs.symm.trans q.abs)
theorem Vals.inj : ∀ {xs ys : List V} {us : List Value}, Vals xs us -> Vals ys us -> xs = ys
 | _, _, _, .nil, .nil => rfl
 | _, _, _, .cons r t, .cons r' t' => by rw [r.inj r', Vals.inj t t']
section
variable {X : Cx} {pins : List (Addr × Obj)} {σ : St} {H : Hp} {s : Shared} {a : Addr} {xs ys : List V}
theorem SqL.of {K : PySem.W.Frag} (h : H a = some (.lst xs)) : SqL K H a xs := .inl (.inl h)
theorem SqT.of {K : PySem.W.Frag} (h : H a = some (.tup xs)) : SqT K H a xs := .inl (.inl h)
theorem Inv.list (I : Inv X pins σ H s) (h : SqL X.K H a xs) : ∃ its : List Value, Vals xs its /\ PlainL s.heap a its.toArray /\ xs.length <= sizeLine := by
 rcases h with h | ⟨o, its, n, hk, hc, hd, hs, hz, r⟩
 ·obtain ⟨z, its, n, r, e⟩ := h.ok I.hok
  exact ⟨its, r, ⟨_, n, e, rfl, rfl, rfl⟩, z⟩
 ·refine ⟨its.toList, r, ⟨o, n, I.kIn a o hk, hc, hd, by simpa using hs⟩, ?_⟩
  have e := r.length
  simp only [Array.length_toList] at e
  omega
theorem Inv.tuple (I : Inv X pins σ H s) (h : SqT X.K H a xs) : ∃ its : List Value, Vals xs its /\ IsTup s.heap a its.toArray /\ xs.length <= sizeLine := by
 rcases h with h | ⟨o, its, n, hk, hc, hs, hz, r⟩
 ·obtain ⟨z, its, r, p⟩ := h.ok I.hok
  exact ⟨its, r, p.tup, z⟩
 ·refine ⟨its.toList, r, ⟨o, I.kIn a o hk, hc.1, n, by simpa using hs⟩, ?_⟩
  have e := r.length
  simp only [Array.length_toList] at e
  omega
theorem Inv.list_inj (I : Inv X pins σ H s) (h : SqL X.K H a xs) (h' : SqL X.K H a ys) : xs = ys := by
 obtain ⟨its, r, ⟨o, n, e, _, _, d⟩, _⟩ := I.list h
 obtain ⟨its', r', ⟨o', n', e', _, _, d'⟩, _⟩ := I.list h'
 rw [e] at e'; cases e'
 rw [d] at d'
 injection d' with d1 _
 have : its = its' := by simpa using congrArg Array.toList d1
 subst this
 exact r.inj r'
theorem Inv.tuple_inj (I : Inv X pins σ H s) (h : SqT X.K H a xs) (h' : SqT X.K H a ys) : xs = ys := by
 obtain ⟨its, r, ⟨o, e, _, n, d⟩, _⟩ := I.tuple h
 obtain ⟨its', r', ⟨o', e', _, n', d'⟩, _⟩ := I.tuple h'
 rw [e] at e'; cases e'
 rw [d] at d'
 injection d' with d1 _
 have : its = its' := by simpa using congrArg Array.toList d1
 subst this
 exact r.inj r'
end
section
variable {X : Cx} {pins : List (Addr × Obj)} {σ : St} {H : Hp} {s : Shared} {E : Value -> Shared -> Prop}
end
section
variable {X : Cx} {st : Stmt} {rest : List Stmt} {t u : TS} {e : Expr} {te : TE} {pos : Pos}
noncomputable def z5A : TS := λ D σ H => D.nx σ H
noncomputable def tSeq (t u : TS) : TS := λ D σ H => t { D with nx := u D } σ H
theorem z3m : PSs X [] z5A := λ _ _ σ H _ I h => wpAny_execs_nil ⟨σ, H, I, h⟩
theorem q3R (h1 : PS X st t) (h2 : PSs X rest u) : PSs X (st :: rest) (tSeq t u) := by
 intro pins s σ H D I h
 refine wpAny_execs_cons (thn (h1 pins s σ H { D with nx := u D } I h) λ f s1 q => ?_)
 cases f with
 | next =>
  obtain ⟨σ', H', I', q⟩ := q
  exact h2 pins s1 σ' H' D I' q
 | ret v => exact q
 | brk => exact q
 | cont => exact q
theorem z3L : PS X (.Pass pos) z5A := λ _ _ σ H _ I h => wpAny_Pass ⟨σ, H, I, h⟩
theorem Inv.quiet {pins : List (Addr × Obj)} {σ : St} {H : Hp} {s : Shared} (I : Inv X pins σ H s) : interactive X.env = false := by simp [interactive, I.ok.kind]
noncomputable def z6j (te : TE) : TS := λ D σ H => te σ H λ _ H1 => D.nx σ H1
theorem q6P (he : PE X e te) (hs : swapsWith e none pos.line X.env = pure false := by rfl) : PS X (.Expr e pos) (z6j te) := by
 intro pins s σ H D I h
 exact wpAny_Expr_any (thn (he pins s σ H _ I h) λ v s1 ⟨x, H1, I1, r1, q1⟩ => ⟨σ, H1, I1, q1⟩) I.quiet hs
noncomputable def tRet (te : TE) : TS := λ D σ H => te σ H D.rt
theorem q6n (he : PE X e te) : PS X (.Return (some e) pos) (tRet te) := by
 intro pins s σ H D I h
 exact wpAny_Return_some (thn (he pins s σ H _ I h) λ v s1 ⟨x, H1, I1, r1, q1⟩ => ⟨x, σ, H1, I1, r1, q1⟩)
noncomputable def z6d : TS := λ D _ H => D.rt .non H
theorem z2o : PS X (.Return none pos) z6d := λ _ _ σ H _ I h => wpAny_Return_none ⟨.non, σ, H, I, rfl, h⟩
noncomputable def tIfS (c : TT) (t u : TS) : TS := λ D σ H => c σ H λ b H1 => if b = true then t D σ H1 else u D σ H1
theorem z3q {c : Expr} {a b : List Stmt} {tc : TT} (hc : PT X c tc) (ha : PSs X a t) (hb : PSs X b u) : PS X (.If c a b pos) (tIfS tc t u) := by
 intro pins s σ H D I h
 refine wpAny_If (thn (hc pins s σ H _ I h) λ d s1 ⟨H1, I1, q1⟩ => ?_)
 cases d with
 | true => exact ha pins s1 σ H1 D I1 q1
 | false => exact hb pins s1 σ H1 D I1 q1
noncomputable def z5C : TS := λ _ _ _ => False
theorem q1E {sts : List Stmt} : PSs X sts z5C := λ _ _ _ _ _ _ h => h.elim
end
noncomputable abbrev TG := V -> St -> Hp -> (St -> Hp -> Prop) -> Prop
noncomputable abbrev TGs := List V -> St -> Hp -> (St -> Hp -> Prop) -> Prop
noncomputable def PG (X : Cx) (target : Expr) (t : TG) : Prop :=
 ∀ (pins : List (Addr × Obj)) (s : Shared) (σ : St) (H : Hp) (v : V) (u : Value) (Q : St -> Hp -> Prop), Inv X pins σ H s -> RelV v u -> t v σ H Q ->
  wpAny (model X.prog X.w) X.A (assign target X.env u) (λ _ s' => ∃ σ' H', Inv X pins σ' H' s' /\ Q σ' H') X.xe s
noncomputable def PGs (X : Cx) (ts : List Expr) (t : TGs) : Prop :=
 ∀ (pins : List (Addr × Obj)) (s : Shared) (σ : St) (H : Hp) (vs : List V) (us : List Value) (Q : St -> Hp -> Prop), Inv X pins σ H s -> Vals vs us -> t vs σ H Q ->
  wpAny (model X.prog X.w) X.A (assignInOrder ((assignEach ts X.env).map (·.2)) us) (λ _ s' => ∃ σ' H', Inv X pins σ' H' s' /\ Q σ' H') X.xe s
noncomputable abbrev TSet := V -> V -> V -> Hp -> (Hp -> Prop) -> Prop
noncomputable def PSet (X : Cx) (t : TSet) : Prop :=
 ∀ (pins : List (Addr × Obj)) (s : Shared) (σ : St) (H : Hp) (o i v : V) (ov iv u : Value) (Q : Hp -> Prop), Inv X pins σ H s -> RelV o ov -> RelV i iv -> RelV v u -> t o i v H Q ->
  wpAny (model X.prog X.w) X.A (setItem ov iv u) (λ _ s' => ∃ H', Inv X pins σ H' s' /\ Q H') X.xe s
section
variable {X : Cx} {pos : Pos}
noncomputable def q8D (i : Nat) : TG := λ v σ H Q => Q (σ.set i (some v)) H
theorem q9z {i : Nat} {x : Str} (hN : X.N.Nodup) (hi : X.N[i]? = some x) (hx : Loc X.env.scope x) (hf : X.fn x = true \/ X.env.scope.names.lookup x = some .local := by first | exact .inl rfl | exact .inr rfl | assumption) : PG X (.Name x pos) (q8D i) := by
 intro pins s σ H v u Q I r h
 exact wpAny_assign_Name (q7u I hN hi hx r (λ s' I' => ⟨_, H, I', h⟩) hf)
noncomputable def gNil : TGs := λ vs σ H Q => vs = [] /\ Q σ H
noncomputable def z6a (t : TG) (u : TGs) : TGs := λ vs σ H Q => ∃ v r, vs = v :: r /\ t v σ H λ σ' H' => u r σ' H' Q
theorem z3H : PGs X [] gNil := by
 intro pins s σ H vs us Q I r h
 obtain ⟨e, h⟩ := h
 subst e
 cases r
 exact assignInOrder_nil ⟨σ, H, I, h⟩
theorem z0F {e : Expr} {es : List Expr} {t : TG} {u : TGs} (h1 : PG X e t) (h2 : PGs X es u)
  (hs : (assignEach (e :: es) X.env).map (·.2) = assign e X.env :: (assignEach es X.env).map (·.2) := by rfl) : PGs X (e :: es) (z6a t u) := by
 intro pins s σ H vs us Q I r h
 obtain ⟨v, vr, e1, h⟩ := h
 subst e1
 cases r with
 | cons r rr =>
  rw [hs]
  refine assignInOrder_cons (thn (h1 pins s σ H _ _ _ I r h) λ _ s1 ⟨σ1, H1, I1, q1⟩ => ?_)
  exact h2 pins s1 σ1 H1 _ _ Q I1 rr q1
noncomputable def gTup (K : PySem.W.Frag) (n : Nat) (t : TGs) : TG := λ v σ H Q => ∃ a xs, v = .ref a /\ SqT K H a xs /\ xs.length = n /\ t xs σ H Q
theorem z3R {es : List Expr} {k : Nat} {t : TGs} {n : Nat} (hc : X.calm = true) (h : PGs X es t)
  (hn : (assignEach es X.env).length = n := by rfl) (hst : (assignEach es X.env).findIdx? (·.1) = none := by rfl) : PG X (.Tuple es k pos) (gTup X.K n t) := by
 intro pins s σ H v u Q I r hw
 obtain ⟨a, xs, e1, hq, hl, hw⟩ := hw
 subst e1
 cases r
 obtain ⟨its, rv, ht, hz⟩ := I.tuple hq
 refine assign_Tuple_tuple (I.ok.hd hc) ht (by simp [hn, ← hl, rv.length]) hst λ h' hx => ?_
 have I1 : Inv X pins σ H { s with heap := h' } := I.kept (t' := s.toks) λ b o e => hx b o (Nat.ne_of_lt (Heap.lt_size e)) e
 exact h pins _ σ H xs _ Q I1 (by simpa using rv) hw
noncomputable def gSub (to ti : TE) (t : TSet) : TG := λ v σ H Q => to σ H λ o H1 => ti σ H1 λ i H2 => t o i v H2 λ H3 => Q σ H3
theorem z4W {o i : Expr} {to ti : TE} {t : TSet} (ho : PE X o to) (hi : PE X i ti) (hs : PSet X t)
  (ha : ∀ v, assign (.Subscript o i pos) X.env v = (do
   let ov ← holding [v] (eval o X.env)
   let iv ← holding [v, ov] (eval i X.env)
   standAt pos
   holding [v, ov, iv] (setItem ov iv v)
   release [v, ov, iv] []) := by intro _; rfl) : PG X (.Subscript o i pos) (gSub to ti t) := by
 intro pins s σ H v u Q I r h
 rw [ha]
 refine wpAny_bind (wpAny_holding (thn (ho pins s σ H _ I h) λ ov s1 ⟨x, H1, I1, r1, q1⟩ => ?_))
 refine wpAny_bind (wpAny_holding (thn (hi pins s1 σ H1 _ I1 q1) λ iv s2 ⟨y, H2, I2, r2, q2⟩ => ?_))
 refine wpAny_bind (wpAny_standAt (wpAny_bind (wpAny_holding (thn (hs pins s2 σ H2 x y v ov iv u _ I2 r1 r2 r q2) λ _ s3 ⟨H3, I3, q3⟩ => ?_))))
 exact wpAny_release ⟨σ, H3, I3, q3⟩
noncomputable def tAsg (te : TE) (g : TG) : TS := λ D σ H => te σ H λ x H1 => g x σ H1 D.nx
theorem z5s {tg e : Expr} {te : TE} {g : TG} (he : PE X e te) (hg : PG X tg g) (hs : swapsWithSole [tg] e pos.line X.env = pure false := by rfl) (hw : swappedStores [tg] e X.env = pure none := by rfl)
  (h1 : (assignEach [tg] X.env).map (·.2) = [assign tg X.env] := by rfl) : PS X (.Assign [tg] e pos) (tAsg te g) := by
 intro pins s σ H D I h
 refine wpAny_Assign_stores (thn (he pins s σ H _ I h) λ v s1 ⟨x, H1, I1, r1, q1⟩ => ?_) hs hw
 rw [h1]
 exact thn (hg pins s1 σ H1 x v _ I1 r1 q1) λ _ s2 q => q
theorem z1L {i : Nat} {x : Str} {e : Expr} {te : TE} {pos' : Pos} (hN : X.N.Nodup) (hi : X.N[i]? = some x) (hx : Loc X.env.scope x) (he : PE X e te) (hs : swapsWith e (some (.Name x pos')) pos.line X.env = pure false := by rfl) (hf : X.fn x = true \/ X.env.scope.names.lookup x = some .local := by first | exact .inl rfl | exact .inr rfl | assumption) :
  PS X (.Assign [.Name x pos'] e pos) (tAsg te (q8D i)) := by
 intro pins s σ H D I h
 refine wpAny_Assign_Name (thn (he pins s σ H _ I h) λ v s1 ⟨y, H1, I1, r1, q1⟩ => ?_) hs
 exact q7u I1 hN hi hx r1 (λ s2 I2 => ⟨_, H1, I2, q1⟩) hf
end
section
variable {X : Cx} {pos : Pos}
noncomputable def z5N (c : TT) (tb : TS) : TS := λ D σ H => ∃ W : Nat -> St -> Hp -> Prop, (∃ m, W m σ H) /\ ∀ m σ H, W m σ H ->
 c σ H λ b H1 => if b = true then ∃ N : St -> Hp -> Prop, (∀ σ' H', N σ' H' -> ∃ m', m' < m /\ W m' σ' H') /\ tb { D with nx := N, ct := N, bk := D.nx } σ H1 else D.nx σ H1
theorem z0B {c : Expr} {body : List Stmt} {tc : TT} {tb : TS} (hp : PassesOwn (model X.prog X.w) X.A X.env X.xe) (hc : PT X c tc) (hb : PSs X body tb) : PS X (.While c body [] pos) (z5N tc tb) := by
 intro pins s σ H D I h
 obtain ⟨W, ⟨m0, w0⟩, turn⟩ := h
 refine wpAny_While (codeAny_whileLoop (λ n s' => ∃ σ' H', Inv X pins σ' H' s' /\ W n σ' H') ?_ m0 ⟨σ, H, I, w0⟩)
 rintro n s1 ⟨σ1, H1, I1, w1⟩
 refine wpAny_passesOwn hp (thn (hc pins s1 σ1 H1 _ I1 (turn n σ1 H1 w1)) λ b s2 ⟨H2, I2, q2⟩ => ?_)
 cases b with
 | true =>
  obtain ⟨N, hN, q2⟩ := q2
  rw [if_pos rfl]
  refine wpAny_passesOwn hp (thn (hb pins s2 σ1 H2 _ I2 q2) λ f s3 q3 => ?_)
  cases f with
  | next =>
   obtain ⟨σ3, H3, I3, n3⟩ := q3
   obtain ⟨m', hm, w3⟩ := hN σ3 H3 n3
   exact ⟨m', hm, σ3, H3, I3, w3⟩
  | cont =>
   obtain ⟨σ3, H3, I3, n3⟩ := q3
   obtain ⟨m', hm, w3⟩ := hN σ3 H3 n3
   exact ⟨m', hm, σ3, H3, I3, w3⟩
  | brk => exact q3
  | ret v => exact q3
 | false =>
  rw [if_neg Bool.false_ne_true]
  exact wpAny_execs_nil ⟨σ1, H2, I2, q2⟩
end
structure It where
 go : Nat -> Hp -> Prop
 yld : Nat -> Hp -> V -> Hp -> Prop
 stop : Nat -> Hp -> Prop
noncomputable def FpOk (X : Cx) (pins : List (Addr × Obj)) (H : Hp) (b : Addr) : Prop :=
 H b = none /\ b ≠ X.env.locals /\ b ∉ X.fs /\ (b ∈ X.ex \/ X.s₀.heap.objs.size <= b) /\ (∀ x c, X.env.cells.lookup x = some c -> c ≠ b) /\ ∀ p ∈ X.pn ++ pins, p.1 ≠ b
theorem Inv.fpOk {X : Cx} {pins : List (Addr × Obj)} {σ : St} {H H' : Hp} {s : Shared} {b : Addr} (I : Inv X pins σ H s) (hb : s.heap.objs.size <= b) (hn : H' b = none) : FpOk X pins H' b := by
 refine ⟨hn, Nat.ne_of_gt (Nat.lt_of_lt_of_le I.lt hb), I.nofs hb, .inr (Nat.le_trans I.sz hb), λ x c e z => ?_, λ p hp z => ?_⟩
 ·obtain ⟨v, q⟩ := I.cell x c e
  exact absurd (Nat.lt_of_lt_of_le q.lt (by rw [z]; exact hb)) (Nat.lt_irrefl _)
 ·exact absurd (Nat.lt_of_lt_of_le (Heap.lt_size (I.pin p hp).1) (by rw [z]; exact hb)) (Nat.lt_irrefl _)
structure Turn (P : Program) (w : World) (K : PySem.W.Frag) (tg : Expr) (J : It) (fp : List Addr) (it : Addr) (tn : Nat -> Heap -> Prop) : Prop where
 mem : it ∈ fp
 obj : ∀ i h, tn i h -> ∀ b ∈ fp, ∃ o, h.get? b = some o /\ ∀ v, o.data ≠ .cell v
 keep : ∀ i h h', tn i h -> (∀ b ∈ fp, ∀ o, h.get? b = some o -> h'.get? b = some o) -> tn i h'
 item : ∀ (X : Cx), X.prog = P -> X.w = w -> X.K = K -> X.calm = true -> ∀ (i : Nat) (pins : List (Addr × Obj)) (s : Shared) (σ : St) (H : Hp) (E : Value -> Shared -> Prop), Inv X pins σ H s -> (∀ b ∈ fp, FpOk X pins H b) -> tn i s.heap -> J.go i H ->
  wpAny (model P w) X.A (pyNext (.ref it)) (λ r s1 => ∃ u, r = some u /\
   wpAny (model P w) X.A (letOwnedTupleGo tg (.ref it) u) (λ _ s2 => ∃ x H', Inv X pins σ H' s2 /\ RelV x u /\ J.yld i H x H' /\ tn (i + 1) s2.heap /\ ∀ b ∈ fp, H' b = none) E s1) E s
 done : ∀ (X : Cx), X.prog = P -> X.w = w -> X.K = K -> X.calm = true -> ∀ (i : Nat) (pins : List (Addr × Obj)) (s : Shared) (σ : St) (H : Hp) (E : Value -> Shared -> Prop), Inv X pins σ H s -> (∀ b ∈ fp, FpOk X pins H b) -> tn i s.heap -> J.stop i H ->
  wpAny (model P w) X.A (pyNext (.ref it)) (λ r s1 => r = none /\ Inv X pins σ H s1) E s
 self : ∀ (A : Around) (i : Nat) (s : Shared) (Q : Value -> Shared -> Prop) (E : Value -> Shared -> Prop), tn i s.heap -> Q (.ref it) s -> wpAny (model P w) A (pyIter (.ref it)) Q E s
noncomputable abbrev TI := St -> Hp -> (It -> Hp -> Prop) -> Prop
noncomputable def PIE (X : Cx) (pins : List (Addr × Obj)) (σ : St) (tg : Expr) (R : It -> Hp -> Prop) (itv : Value) (s2 : Shared) : Prop :=
 ∃ (it : Addr) (fp : List Addr) (tn : Nat -> Heap -> Prop) (J : It) (H' : Hp), itv = .ref it /\ Inv X pins σ H' s2 /\ Turn X.prog X.w X.K tg J fp it tn /\ tn 0 s2.heap /\ (∀ b ∈ fp, FpOk X pins H' b) /\ R J H'
noncomputable def PI (X : Cx) (tg iter : Expr) (wi : TI) : Prop :=
 ∀ (pins : List (Addr × Obj)) (s : Shared) (σ : St) (H : Hp) (R : It -> Hp -> Prop), Inv X pins σ H s -> wi σ H R ->
  wpAny (model X.prog X.w) X.A (eval iter X.env) (λ v s1 => wpAny (model X.prog X.w) X.A (pyIter v) (PIE X pins σ tg R) X.xe s1) X.xe s
theorem z1l {M : Model} {A : Around} {E : Value -> Shared -> Prop} {s : Shared} {tg : Expr} {it : Addr} {u : Value} {o : Obj} {n : String} {vs : Array Value} {Q : Unit -> Shared -> Prop} (ho : s.heap.get? it = some o) (hc : o.cls = .type n) (hd : o.data = .fields vs)
    (hn : ["enumerate", "zip", "dict_itemiterator", "dict_reverseitemiterator", "odict_iterator", "itertools.zip_longest", "itertools.pairwise"].contains n = false) (hQ : Q () s) : wpAny M A (letOwnedTupleGo tg (.ref it) u) Q E s := by
  unfold letOwnedTupleGo
  cases tg <;> first
    | exact wpAny_pure hQ
    | (cases u <;> first
        | exact wpAny_pure hQ
        | (refine wpAny_bind (wpAny_load ho ?_)
           rw [hc, hd]
           show wpAny M A (if (["enumerate", "zip", "dict_itemiterator", "dict_reverseitemiterator", "odict_iterator", "itertools.zip_longest", "itertools.pairwise"].contains n && vs[0]? == some (rawInt _)) = true then _ else _) Q E s
           rw [if_neg (by intro h; rw [hn, Bool.false_and] at h; cases h)]
           exact wpAny_pure hQ))
noncomputable def Itl (K : PySem.W.Frag) (a : Addr) : It :=
 ⟨λ i H => ∃ xs x, SqL K H a xs /\ xs[i]? = some x, λ i H x H' => H' = H /\ ∀ xs, SqL K H a xs -> xs[i]? = some x, λ i H => ∃ xs, SqL K H a xs /\ xs.length <= i⟩
noncomputable def Itt (K : PySem.W.Frag) (a : Addr) : It :=
 ⟨λ i H => ∃ xs x, SqT K H a xs /\ xs[i]? = some x, λ i H x H' => H' = H /\ ∀ xs, SqT K H a xs -> xs[i]? = some x, λ i H => ∃ xs, SqT K H a xs /\ xs.length <= i⟩
noncomputable def Itr (lo : Int) (n : Nat) : It := ⟨λ i _ => i < n, λ i H x H' => H' = H /\ x = .int (lo + i), λ i _ => n <= i⟩
theorem q8L {P : Program} {w : World} {K : PySem.W.Frag} {tg : Expr} (a it : Addr) : Turn P w K tg (Itl K a) [it] it (λ i h => h.IsListIter it a i) where
 mem := by simp
 obj := λ i h st b hb => by
  have e : b = it := by simpa using hb
  subst e
  obtain ⟨o, e, c, d⟩ := st
  exact ⟨o, e, λ v z => by rw [d] at z; cases z⟩
 keep := λ i h h' st k => st.at λ o e => k it (by simp) o e
 item := by
  intro X hP hw hK hc i pins s σ H E I hf st hg
  subst hP hw hK
  obtain ⟨xs, x, hq, hx⟩ := hg
  obtain ⟨its, rv, p, hz⟩ := I.list hq
  obtain ⟨u, hu, ru⟩ := rv.get hx
  obtain ⟨f0, f1, f2, f3, f4, f5⟩ := hf it (by simp)
  refine wpAny_pyNext_list_item st p.isList (x := u) (by simpa using hu) λ h' st' sb => ?_
  have I1 : Inv X pins σ H { s with heap := h' } := I.turned (t' := s.toks) (λ b o hb e => (sb.2 b hb).trans e) f0 f1 f3 f4 f5
  obtain ⟨o, e, c, d⟩ := id st'
  exact ⟨u, rfl, z1l (s := { s with heap := h' }) e c d (by decide) ⟨x, H, I1, ru, ⟨rfl, λ ys hy => by rw [I.list_inj hy hq]; exact hx⟩, st', λ b hb => (hf b hb).1⟩⟩
 done := by
  intro X hP hw hK hc i pins s σ H E I hf st hg
  subst hP hw hK
  obtain ⟨xs, hq, hx⟩ := hg
  obtain ⟨its, rv, p, hz⟩ := I.list hq
  obtain ⟨f0, f1, f2, f3, f4, f5⟩ := hf it (by simp)
  have hl := rv.length
  exact wpAny_pyNext_list_end (I.ok.hd hc) st p.isList (by simp; omega) λ h' eb => ⟨rfl, I.turned (t' := s.toks) (λ b o hb e => eb b o hb e) f0 f1 f3 f4 f5⟩
 self := λ _ _ _ _ _ st h => wpAny_pyIter_listiter st h
theorem q8c {P : Program} {w : World} {K : PySem.W.Frag} {tg : Expr} (a it : Addr) : Turn P w K tg (Itt K a) [it] it (λ i h => h.IsTupleIter it a i) where
 mem := by simp
 obj := λ i h st b hb => by
  have e : b = it := by simpa using hb
  subst e
  obtain ⟨o, e, c, d⟩ := st
  exact ⟨o, e, λ v z => by rw [d] at z; cases z⟩
 keep := λ i h h' st k => st.at λ o e => k it (by simp) o e
 item := by
  intro X hP hw hK hc i pins s σ H E I hf st hg
  subst hP hw hK
  obtain ⟨xs, x, hq, hx⟩ := hg
  obtain ⟨its, rv, p, hz⟩ := I.tuple hq
  obtain ⟨u, hu, ru⟩ := rv.get hx
  obtain ⟨f0, f1, f2, f3, f4, f5⟩ := hf it (by simp)
  refine wpAny_pyNext_tuple_item st (show s.heap.IsTuple a its.toArray from p) (x := u) (by simpa using hu) λ h' st' sb => ?_
  have I1 : Inv X pins σ H { s with heap := h' } := I.turned (t' := s.toks) (λ b o hb e => (sb.2 b hb).trans e) f0 f1 f3 f4 f5
  obtain ⟨o, e, c, d⟩ := id st'
  exact ⟨u, rfl, z1l (s := { s with heap := h' }) e c d (by decide) ⟨x, H, I1, ru, ⟨rfl, λ ys hy => by rw [I.tuple_inj hy hq]; exact hx⟩, st', λ b hb => (hf b hb).1⟩⟩
 done := by
  intro X hP hw hK hc i pins s σ H E I hf st hg
  subst hP hw hK
  obtain ⟨xs, hq, hx⟩ := hg
  obtain ⟨its, rv, p, hz⟩ := I.tuple hq
  obtain ⟨f0, f1, f2, f3, f4, f5⟩ := hf it (by simp)
  have hl := rv.length
  exact wpAny_pyNext_tuple_end (I.ok.hd hc) st (show s.heap.IsTuple a its.toArray from p) (by simp; omega) λ h' eb => ⟨rfl, I.turned (t' := s.toks) (λ b o hb e => eb b o hb e) f0 f1 f3 f4 f5⟩
 self := λ _ _ _ _ _ st h => wpAny_pyIter_tupleiter st h
theorem q7L {P : Program} {w : World} {K : PySem.W.Frag} {tg : Expr} (it : Addr) (lo : Int) (n : Nat) : Turn P w K tg (Itr lo n) [it] it (λ i h => IsRangeIter h it (lo + (i : Nat) * 1) ((n : Int) - (i : Nat)) 1) where
 mem := by simp
 obj := λ i h st b hb => by
  have e : b = it := by simpa using hb
  subst e
  exact ⟨_, st, λ v z => by
   have z' : Data.fields _ = Data.cell v := z
   cases z'⟩
 keep := λ i h h' st k => k it (by simp) _ st
 item := by
  intro X hP hw hK hc i pins s σ H E I hf st hg
  subst hP hw hK
  obtain ⟨f0, f1, f2, f3, f4, f5⟩ := hf it (by simp)
  have W := Walks.range (prog := X.prog) (w := X.w) (I.ok.hd hc) it lo 1 n
  refine W.item i s _ _ hg st λ v h' tk hv st' kk => ?_
  obtain ⟨t, rfl⟩ := hv
  have I1 : Inv X pins σ H { s with heap := h', toks := tk } := I.turned (λ b o hb e => kk b o (by simpa using hb) e) f0 f1 f3 f4 f5
  refine ⟨_, rfl, z1l (s := { s with heap := h', toks := tk }) (n := "range_iterator") st' rfl rfl (by decide) ⟨.int (lo + i), H, I1, ⟨t, ?_⟩, ⟨rfl, rfl⟩, st', λ b hb => (hf b hb).1⟩⟩
  rw [Int.mul_one]
 done := by
  intro X hP hw hK hc i pins s σ H E I hf st hg
  subst hP hw hK
  obtain ⟨f0, f1, f2, f3, f4, f5⟩ := hf it (by simp)
  exact wpAny_pyNext_range_end (I.ok.hd hc) st (by have : n <= i := hg; omega) λ h' eb => ⟨rfl, I.turned (t' := s.toks) (λ b o hb e => eb b o hb e) f0 f1 f3 f4 f5⟩
 self := λ _ _ _ _ _ st h => wpAny_pyIter_rangeiter st h
end L2
namespace L2
open PySem PySem.Spec PyProof.Rows
section
variable {X : Cx} {tg : Expr}
noncomputable def z6f (K : PySem.W.Frag) (tl : TE) : TI := λ σ H R => tl σ H λ x H1 => ∃ a, x = .ref a /\ (∃ xs, SqL K H1 a xs) /\ R (Itl K a) H1
noncomputable def iTup (K : PySem.W.Frag) (tl : TE) : TI := λ σ H R => tl σ H λ x H1 => ∃ a, x = .ref a /\ (∃ xs, SqT K H1 a xs) /\ R (Itt K a) H1
theorem q6I {l : Expr} {tl : TE} (hl : PE X l tl) : PI X tg l (z6f X.K tl) := by
 intro pins s σ H R I h
 refine thn (hl pins s σ H _ I h) λ v s1 ⟨x, H1, I1, r1, q1⟩ => ?_
 obtain ⟨a, e, ⟨xs, hq⟩, q⟩ := q1
 subst e
 cases r1
 obtain ⟨its, rv, p, hz⟩ := I1.list hq
 refine wpAny_pyIter_list p.isList ?_
 refine ⟨s1.heap.objs.size, [s1.heap.objs.size], _, _, H1, rfl, I1.kept (t' := s1.toks) λ b o e => Heap.get?_push_of_some _ e, q8L a _, ⟨_, Heap.get?_push_size _ rfl, rfl, rfl⟩, λ b hb => ?_, q⟩
 have e : b = s1.heap.objs.size := by simpa using hb
 subst e
 exact I1.fpOk (Nat.le_refl _) (I1.hok.fresh (Nat.le_refl _))
theorem z5n {l : Expr} {tl : TE} (hl : PE X l tl) : PI X tg l (iTup X.K tl) := by
 intro pins s σ H R I h
 refine thn (hl pins s σ H _ I h) λ v s1 ⟨x, H1, I1, r1, q1⟩ => ?_
 obtain ⟨a, e, ⟨xs, hq⟩, q⟩ := q1
 subst e
 cases r1
 obtain ⟨its, rv, p, hz⟩ := I1.tuple hq
 refine wpAny_pyIter_tuple (show s1.heap.IsTuple a its.toArray from p) ?_
 refine ⟨s1.heap.objs.size, [s1.heap.objs.size], _, _, H1, rfl, I1.kept (t' := s1.toks) λ b o e => Heap.get?_push_of_some _ e, q8c a _, ⟨_, Heap.get?_push_size _ rfl, rfl, rfl⟩, λ b hb => ?_, q⟩
 have e : b = s1.heap.objs.size := by simpa using hb
 subst e
 exact I1.fpOk (Nat.le_refl _) (I1.hok.fresh (Nat.le_refl _))
theorem q7x {pins : List (Addr × Obj)} {σ : St} {H : Hp} {s : Shared} {R : It -> Hp -> Prop} {E : Value -> Shared -> Prop} {lo hi : Int} {t u v : Tok} {tk : Nat} (I : Inv X pins σ H s) (h1 : -(2 ^ 62) <= lo) (h2 : lo < 2 ^ 62) (h3 : -(2 ^ 62) <= hi) (h4 : hi < 2 ^ 62)
  (q : R (Itr lo (hi - lo).toNat) H) : wpAny (model X.prog X.w) X.A (pyIter (.ref s.heap.objs.size)) (PIE X pins σ tg R) E { s with heap := s.heap.push { cls := .type "range", data := .fields #[.int lo t, .int hi u, .int 1 v] }, toks := tk } := by
 refine wpAny_pyIter_range (IsRange.new ..) (small_one h1 h2 h3 h4) ?_
 have I1 : Inv X pins σ H { s with heap := s.heap.push { cls := .type "range", data := .fields #[.int lo t, .int hi u, .int 1 v] }, toks := tk } := I.kept λ b o e => Heap.get?_push_of_some _ e
 refine ⟨(s.heap.push { cls := .type "range", data := .fields #[.int lo t, .int hi u, .int 1 v] }).objs.size, [(s.heap.push { cls := .type "range", data := .fields #[.int lo t, .int hi u, .int 1 v] }).objs.size], _, _, H, rfl,
  I1.kept (t' := tk) λ b o e => Heap.get?_push_of_some _ e, q7L _ lo (hi - lo).toNat, ?_, λ b hb => ?_, q⟩
 ·have e1 : lo + ((0 : Nat) : Int) * 1 = lo := by simp
  have e2 : (((hi - lo).toNat : Nat) : Int) - ((0 : Nat) : Int) = Builtin.Range.rangeSize lo hi 1 := by rw [rangeSize_one]; split <;> omega
  show IsRangeIter _ _ (lo + ((0 : Nat) : Int) * 1) ((((hi - lo).toNat : Nat) : Int) - ((0 : Nat) : Int)) 1
  rw [e1, e2]
  exact Heap.get?_push_size _ rfl
 ·have e : b = (s.heap.push { cls := .type "range", data := .fields #[.int lo t, .int hi u, .int 1 v] }).objs.size := by simpa using hb
  subst e
  exact I1.fpOk (Nat.le_refl _) (I1.hok.fresh (Nat.le_refl _))
noncomputable def z6n (ta : TA) : TI := λ σ H R => ta σ H λ vs H1 => ∃ j : Int, vs = [.int j] /\ -(2 ^ 62) <= j /\ j < 2 ^ 62 /\ R (Itr 0 j.toNat) H1
noncomputable def z6c (ta : TA) : TI := λ σ H R => ta σ H λ vs H1 => ∃ i j : Int, vs = [.int i, .int j] /\ (-(2 ^ 62) <= i /\ i < 2 ^ 62 /\ -(2 ^ 62) <= j /\ j < 2 ^ 62) /\ R (Itr i (j - i).toNat) H1
theorem q9G {a : Expr} {ta : TA} {p pos : Pos} (hg : Gl X "range") (hm : X.mg "range" = none) (ha : PA X [a] ta) (hs : starEach [a] X.env = [(false, eval a X.env)] := by rfl) : PI X tg (.Call (.Name "range" p) [a] [] pos) (z6n ta) := by
 intro pins s σ H R I h
 refine Call_ (q3b I hg hm boot_range (PyProof.Rows.callWith_type1 (thn (ha pos pins s σ H _ I h) λ us s1 ⟨vs, H1, I1, r1, q1⟩ => ?_) hs rfl))
 obtain ⟨j, e, q1, q2, q⟩ := q1
 subst e
 cases r1 with
 | cons r rr =>
  cases rr
  obtain ⟨t, rfl⟩ := r
  exact call_range_1 (q7x I1 (by omega) (by omega) q1 q2 (by simpa using q))
theorem q8I {a b : Expr} {ta : TA} {p pos : Pos} (hg : Gl X "range") (hm : X.mg "range" = none) (ha : PA X [a, b] ta) (hs : starEach [a, b] X.env = [(false, eval a X.env), (false, eval b X.env)] := by rfl) (hs2 : starEach [b] X.env = [(false, eval b X.env)] := by rfl) :
  PI X tg (.Call (.Name "range" p) [a, b] [] pos) (z6c ta) := by
 intro pins s σ H R I h
 refine Call_ (q3b I hg hm boot_range (PyProof.Rows.callWith_type1 (thn (ha pos pins s σ H _ I h) λ us s1 ⟨vs, H1, I1, r1, q1⟩ => ?_) (by rw [hs, hs2]) (by rw [hs2]; rfl)))
 obtain ⟨i, j, e, ⟨q1, q2, q3, q4⟩, q⟩ := q1
 subst e
 cases r1 with
 | cons r rr =>
  cases rr with
  | cons r' rr =>
   cases rr
   obtain ⟨t, rfl⟩ := r
   obtain ⟨t', rfl⟩ := r'
   exact call_range_2 (q7x I1 q1 q2 q3 q4 q)
noncomputable def tFor (wi : TI) (g : TG) (tb : TS) : TS := λ D σ H => wi σ H λ J H1 => ∃ W : Nat -> Nat -> St -> Hp -> Prop, (∃ m, W 0 m σ H1) /\ ∀ i m σ H, W i m σ H ->
 (J.stop i H /\ D.nx σ H) \/ (J.go i H /\ ∃ N : St -> Hp -> Prop, (∀ σ' H', N σ' H' -> ∃ m', m' < m /\ W (i + 1) m' σ' H') /\ ∀ x H', J.yld i H x H' -> g x σ H' λ σ2 H2 => tb { D with nx := N, ct := N, bk := D.nx } σ2 H2)
noncomputable def q6d (fp : List Addr) (h : Heap) : List (Addr × Obj) := fp.filterMap λ b => (h.get? b).map λ o => (b, o)
theorem q2B {fp : List Addr} {h : Heap} {b : Addr} {o : Obj} (hb : b ∈ fp) (e : h.get? b = some o) : (b, o) ∈ q6d fp h := List.mem_filterMap.mpr ⟨b, hb, by rw [e]; rfl⟩
theorem q9m {fp : List Addr} {h : Heap} {p : Addr × Obj} (hp : p ∈ q6d fp h) : p.1 ∈ fp /\ h.get? p.1 = some p.2 := by
 obtain ⟨b, hb, e⟩ := List.mem_filterMap.mp hp
 cases q : h.get? b with
 | none => rw [q] at e; cases e
 | some o =>
  rw [q] at e
  have e' : (b, o) = p := Option.some.inj e
  subst e'
  exact ⟨hb, q⟩
theorem Inv.pinned {pins : List (Addr × Obj)} {σ : St} {H : Hp} {s : Shared} {fp : List Addr} (I : Inv X pins σ H s) (hf : ∀ b ∈ fp, FpOk X pins H b) (ho : ∀ b ∈ fp, ∃ o, s.heap.get? b = some o /\ ∀ v, o.data ≠ .cell v) : Inv X (pins ++ q6d fp s.heap) σ H s :=
 I.pins_of λ p hp => (List.mem_append.mp hp).elim (λ z => I.pin p (List.mem_append_right _ z)) λ z => by
  obtain ⟨hb, e⟩ := q9m z
  obtain ⟨f0, f1, f2, _⟩ := hf p.1 hb
  obtain ⟨o, e', d⟩ := ho p.1 hb
  rw [e] at e'; cases e'
  exact ⟨e, f0, f1, f2, d⟩
theorem Inv.unpinned {pins pl : List (Addr × Obj)} {σ : St} {H : Hp} {s : Shared} (I : Inv X (pins ++ pl) σ H s) : Inv X pins σ H s := I.pins_of λ p hp => I.pin p (List.mem_append_right _ (List.mem_append_left _ hp))
theorem z1T {iter : Expr} {body : List Stmt} {wi : TI} {g : TG} {tb : TS} {pos : Pos} (hp : PassesOwn (model X.prog X.w) X.A X.env X.xe) (hc : X.calm = true) (hi : PI X tg iter wi) (hg : PG X tg g) (hb : PSs X body tb)
  (hs : ∀ x, foldedSetIterable iter X.env x = pure x := by intro _; rfl) : PS X (.For tg iter body [] pos) (tFor wi g tb) := by
 intro pins s σ H D I h
 refine wpAny_For (thn (hi pins s σ H _ I h) λ v s1 h1 => thn h1 λ itv s2 h2 => ?_) hs
 obtain ⟨it, fp, tn, J, H2, e, I2, T, st2, f2, W, ⟨m0, w0⟩, turn⟩ := h2
 subst e
 have stat : ∀ {H' : Hp}, (∀ b ∈ fp, H' b = none) -> ∀ b ∈ fp, FpOk X pins H' b := λ hn b hb => ⟨hn b hb, (f2 b hb).2⟩
 refine codeAny_forLoop_any (λ n s' => ∃ i σ' H', Inv X pins σ' H' s' /\ tn i s'.heap /\ (∀ b ∈ fp, H' b = none) /\ W i n σ' H') ?_ m0 ⟨0, σ, H2, I2, st2, λ b hb => (f2 b hb).1, w0⟩
 rintro n s3 ⟨i, σ3, H3, I3, st3, fr3, w3⟩
 rcases turn i n σ3 H3 w3 with ⟨stop, qn⟩ | ⟨go, N, hN, step⟩
 ·refine wpAny_passesOwn hp (thn (T.done X rfl rfl rfl hc i pins s3 σ3 H3 X.xe I3 (stat fr3) st3 stop) λ r s4 ⟨hr, I4⟩ => ?_)
  subst hr
  exact wpAny_execs_nil ⟨σ3, H3, I4, qn⟩
 ·refine wpAny_passesOwn hp (thn (T.item X rfl rfl rfl hc i pins s3 σ3 H3 X.xe I3 (stat fr3) st3 go) λ r s4 ⟨u, hr, h4⟩ => ?_)
  subst hr
  refine wpAny_passesOwn hp (thn h4 λ _ s5 ⟨x, H5, I5, r5, y5, st5, fr5⟩ => ?_)
  have I5' := I5.pinned (stat fr5) (T.obj _ _ st5)
  refine wpAny_passesOwn hp (thn (hg _ s5 σ3 H5 x u _ I5' r5 (step x H5 y5)) λ _ s6 ⟨σ6, H6, I6, q6⟩ => ?_)
  refine wpAny_passesOwn hp (thn (hb _ s6 σ6 H6 _ I6 q6) λ f s7 q7 => ?_)
  have again : ∀ {σ7 : St} {H7 : Hp}, Inv X (pins ++ q6d fp s5.heap) σ7 H7 s7 -> N σ7 H7 -> ∃ m, m < n /\ ∃ i σ' H', Inv X pins σ' H' s7 /\ tn i s7.heap /\ (∀ b ∈ fp, H' b = none) /\ W i m σ' H' := λ {σ7 H7} I7 n7 => by
   obtain ⟨m', hm, w7⟩ := hN σ7 H7 n7
   refine ⟨m', hm, i + 1, σ7, H7, I7.unpinned, T.keep _ _ _ st5 λ b hb o e => (I7.pin (b, o) (List.mem_append_right _ (List.mem_append_right _ (q2B hb e)))).1, λ b hb => ?_, w7⟩
   obtain ⟨o, e, d⟩ := T.obj _ _ st5 b hb
   exact (I7.pin (b, o) (List.mem_append_right _ (List.mem_append_right _ (q2B hb e)))).2.1
  cases f with
  | next => obtain ⟨σ7, H7, I7, n7⟩ := q7; exact again I7 n7
  | cont => obtain ⟨σ7, H7, I7, n7⟩ := q7; exact again I7 n7
  | brk => obtain ⟨σ7, H7, I7, q7⟩ := q7; exact ⟨σ7, H7, I7.unpinned, q7⟩
  | ret v => obtain ⟨x7, σ7, H7, I7, r7, q7⟩ := q7; exact ⟨x7, σ7, H7, I7.unpinned, r7, q7⟩
end
end L2
namespace L2
open PySem PySem.Spec PyProof.Rows
noncomputable abbrev R2 := V -> V -> Hp -> VK -> Prop
noncomputable def OpR (X : Cx) (f : Value -> Value -> Sem Value) (r : R2) : Prop :=
 ∀ (pins : List (Addr × Obj)) (s : Shared) (σ : St) (H : Hp) (x y : V) (v u : Value) (Q : VK), Inv X pins σ H s -> RelV x v -> RelV y u -> r x y H Q ->
  wpAny (model X.prog X.w) X.A (f v u) (EP X pins σ Q) X.xe s
noncomputable def UnR (X : Cx) (f : Value -> Sem Value) (r : V -> Hp -> VK -> Prop) : Prop :=
 ∀ (pins : List (Addr × Obj)) (s : Shared) (σ : St) (H : Hp) (x : V) (v : Value) (Q : VK), Inv X pins σ H s -> RelV x v -> r x H Q ->
  wpAny (model X.prog X.w) X.A (f v) (EP X pins σ Q) X.xe s
noncomputable def q2h (X : Cx) (f : Value) (r : List V -> Hp -> VK -> Prop) : Prop :=
 ∀ (pins : List (Addr × Obj)) (s : Shared) (σ : St) (H : Hp) (xs : List V) (us : List Value) (Q : VK), Inv X pins σ H s -> Vals xs us -> r xs H Q ->
  wpAny (model X.prog X.w) X.A (call f us) (EP X pins σ Q) X.xe s
noncomputable def TruR (X : Cx) (r : V -> Hp -> (Bool -> Hp -> Prop) -> Prop) : Prop :=
 ∀ (pins : List (Addr × Obj)) (s : Shared) (σ : St) (H : Hp) (x : V) (v : Value) (Q : Bool -> Hp -> Prop), Inv X pins σ H s -> RelV x v -> r x H Q ->
  wpAny (model X.prog X.w) X.A (truthy v) (TP X pins σ Q) X.xe s
noncomputable def tOp (r : R2) (ta tb : TE) : TE := λ σ H Q => ta σ H λ x H1 => tb σ H1 λ y H2 => r x y H2 Q
noncomputable def tUn (r : V -> Hp -> VK -> Prop) (ta : TE) : TE := λ σ H Q => ta σ H λ x H1 => r x H1 Q
noncomputable def rI (C : Int -> Int -> Prop) (g : Int -> Int -> V) : R2 := λ x y H Q => ∃ i j, x = .int i /\ y = .int j /\ C i j /\ Q (g i j) H
noncomputable def rI0 (g : Int -> Int -> V) : R2 := λ x y H Q => ∃ i j, x = .int i /\ y = .int j /\ Q (g i j) H
noncomputable def rU (g : Int -> V) : V -> Hp -> VK -> Prop := λ x H Q => ∃ i, x = .int i /\ Q (g i) H
section
variable {X : Cx} {a b c : Expr} {ta tb tc : TE} {pos : Pos}
theorem binT (ha : PE X a ta) (hb : PE X b tb) {pins : List (Addr × Obj)} {s : Shared} {σ : St} {H : Hp} {R : V -> V -> Hp -> Prop} (I : Inv X pins σ H s)
  (h : ta σ H λ x H1 => tb σ H1 λ y H2 => R x y H2) {Q : Value -> Shared -> Prop} {f : Value -> Value -> Sem Value}
  (hf : ∀ v u s2 x y H2, Inv X pins σ H2 s2 -> RelV x v -> RelV y u -> R x y H2 -> wpAny (model X.prog X.w) X.A (f v u) Q X.xe s2) :
  wpAny (model X.prog X.w) X.A (eval a X.env) (λ v s₁ => wpAny (model X.prog X.w) X.A (eval b X.env) (λ u s₂ => wpAny (model X.prog X.w) X.A (f v u) Q X.xe s₂) X.xe s₁) X.xe s := by
 refine thn (ha pins s σ H _ I h) λ v s1 ⟨x, H1, I1, r1, q1⟩ => ?_
 refine thn (hb pins s1 σ H1 _ I1 q1) λ u s2 ⟨y, H2, I2, r2, q2⟩ => ?_
 exact hf v u s2 x y H2 I2 r1 r2 q2
theorem z7a {op : Operator} {r : R2} (ho : OpR X (binaryOp op) r) (ha : PE X a ta) (hb : PE X b tb) : PE X (.BinOp a op b pos) (tOp r ta tb) := by
 intro pins s σ H Q I h
 exact wpAny_BinOp (binT ha hb I h λ v u s2 x y H2 I2 rx ry q => ho pins s2 σ H2 x y v u Q I2 rx ry q)
theorem z7k {op : UnaryOp} {r : V -> Hp -> VK -> Prop} (ho : UnR X (unaryOp op) r) (ha : PE X a ta) : PE X (.UnaryOp op a pos) (tUn r ta) := by
 intro pins s σ H Q I h
 exact UnaryOp_ (thn (ha pins s σ H _ I h) λ v s1 ⟨x, H1, I1, r1, q1⟩ => ho pins s1 σ H1 x v Q I1 r1 q1)
theorem opI {f : Value -> Value -> Sem Value} {C : Int -> Int -> Prop} {g : Int -> Int -> Int}
  (rule : ∀ (i j : Int) (t u : Tok) (s : Shared) (Q : Value -> Shared -> Prop) (E : Value -> Shared -> Prop), C i j -> Q (.int (g i j) s.toks) { s with toks := s.toks + 1 } -> wpAny (model X.prog X.w) X.A (f (.int i t) (.int j u)) Q E s) :
  OpR X f (rI C λ i j => .int (g i j)) := by
 intro pins s σ H x y v u Q I rx ry h
 obtain ⟨i, j, rfl, rfl, hc, q⟩ := h
 obtain ⟨t, rfl⟩ := rx
 obtain ⟨t', rfl⟩ := ry
 exact rule i j t t' s _ _ hc ⟨.int (g i j), H, I.tok _, ⟨_, rfl⟩, q⟩
theorem opI0 {f : Value -> Value -> Sem Value} {g : Int -> Int -> Int}
  (rule : ∀ (i j : Int) (t u : Tok) (s : Shared) (Q : Value -> Shared -> Prop) (E : Value -> Shared -> Prop), Q (.int (g i j) s.toks) { s with toks := s.toks + 1 } -> wpAny (model X.prog X.w) X.A (f (.int i t) (.int j u)) Q E s) :
  OpR X f (rI0 λ i j => .int (g i j)) := by
 intro pins s σ H x y v u Q I rx ry h
 obtain ⟨i, j, rfl, rfl, q⟩ := h
 obtain ⟨t, rfl⟩ := rx
 obtain ⟨t', rfl⟩ := ry
 exact rule i j t t' s _ _ ⟨.int (g i j), H, I.tok _, ⟨_, rfl⟩, q⟩
theorem opB0 {f : Value -> Value -> Sem Value} {g : Int -> Int -> Bool}
  (rule : ∀ (i j : Int) (t u : Tok) (s : Shared) (Q : Value -> Shared -> Prop) (E : Value -> Shared -> Prop), Q (.bool (g i j)) s -> wpAny (model X.prog X.w) X.A (f (.int i t) (.int j u)) Q E s) :
  OpR X f (rI0 λ i j => .bl (g i j)) := by
 intro pins s σ H x y v u Q I rx ry h
 obtain ⟨i, j, rfl, rfl, q⟩ := h
 obtain ⟨t, rfl⟩ := rx
 obtain ⟨t', rfl⟩ := ry
 exact rule i j t t' s _ _ ⟨.bl (g i j), H, I, rfl, q⟩
noncomputable def CDiv (i j : Int) : Prop := 0 < j /\ j < 1073741824
noncomputable def CPow (i j : Int) : Prop := 0 <= j /\ j <= 1000000 /\ i.natAbs < 2 ^ 64
noncomputable def CMul (i j : Int) : Prop := (-(2 ^ 64) < i /\ i < 2 ^ 64) \/ (-(2 ^ 64) < j /\ j < 2 ^ 64)
theorem CMul.ok {i j : Int} (h : CMul i j) : IntMulOk i j := by
 rcases h with ⟨h1, h2⟩ | ⟨h1, h2⟩
 ·exact .of_left (intBits_le_64 h1 h2)
 ·exact .of_right (intBits_le_64 h1 h2)
theorem q7V (k : Nat) : (0 : Int) <= 2 ^ k := by
 rw [two_pow_cast]
 exact Int.natCast_nonneg _
theorem z4N : OpR X (binaryOp .Add) (rI0 λ i j => .int (i + j)) := opI0 λ _ _ _ _ _ _ _ q => add_int q
theorem z4f : OpR X (binaryOp .Sub) (rI0 λ i j => .int (i - j)) := opI0 λ _ _ _ _ _ _ _ q => sub_int q
theorem z4q : OpR X (binaryOp .Mult) (rI CMul λ i j => .int (i * j)) := opI λ _ _ _ _ _ _ _ hc q => mul_int q hc.ok
theorem z2P : OpR X (binaryOp .FloorDiv) (rI CDiv λ i j => .int (i / j)) := opI λ i j _ _ _ _ _ hc q => by
 have h1 : (0 : Int) < j := hc.1
 have h2 : j < 1073741824 := hc.2
 exact floordiv_int (by omega) (by rw [Int.fdiv_eq_ediv_of_nonneg i (by omega)]; exact q) (.inl (PyProof.noPylong_small (by omega)))
theorem z4u : OpR X (binaryOp .Mod) (rI (λ _ j => 0 < j) λ i j => .int (i % j)) := opI λ i j _ _ _ _ _ hc q => by
 have h1 : (0 : Int) < j := hc
 exact mod_int' (by omega) (by rw [Int.fmod_eq_emod_of_nonneg i (by omega)]; exact q)
theorem z5O : OpR X (binaryOp .LShift) (rI CPow λ i j => .int (i * 2 ^ j.toNat)) := opI λ _ _ _ _ _ _ _ hc q => lshift_int_small hc.1 hc.2.1 hc.2.2 q
theorem z5b : OpR X (binaryOp .RShift) (rI (λ _ j => 0 <= j) λ i j => .int (i / 2 ^ j.toNat)) := opI λ i j _ _ _ _ _ hc q =>
 rshift_int hc (by rw [Int.fdiv_eq_ediv_of_nonneg i (q7V _)]; exact q)
theorem z5x : OpR X (binaryOp .BitAnd) (rI0 λ i j => .int (Builtin.bitAnd i j)) := opI0 λ _ _ _ _ _ _ _ q => and_int q
theorem z6b : OpR X (binaryOp .BitOr) (rI0 λ i j => .int (Builtin.bitOr i j)) := opI0 λ _ _ _ _ _ _ _ q => or_int q
theorem z3T : OpR X (binaryOp .BitXor) (rI0 λ i j => .int (Builtin.bitXor i j)) := opI0 λ _ _ _ _ _ _ _ q => xor_int q
theorem unI {f : Value -> Sem Value} {g : Int -> Int}
  (rule : ∀ (i : Int) (t : Tok) (s : Shared) (Q : Value -> Shared -> Prop) (E : Value -> Shared -> Prop), Q (.int (g i) s.toks) { s with toks := s.toks + 1 } -> wpAny (model X.prog X.w) X.A (f (.int i t)) Q E s) :
  UnR X f (rU λ i => .int (g i)) := by
 intro pins s σ H x v Q I rx h
 obtain ⟨i, rfl, q⟩ := h
 obtain ⟨t, rfl⟩ := rx
 exact rule i t s _ _ ⟨.int (g i), H, I.tok _, ⟨_, rfl⟩, q⟩
theorem z3V : UnR X (unaryOp .USub) (rU λ i => .int (-i)) := unI λ _ _ _ _ _ q => neg_int q
end
section
variable {X : Cx} {a b c : Expr} {ta tb tc : TE} {pos : Pos}
theorem z1q {pins : List (Addr × Obj)} {σ : St} {H : Hp} {s : Shared} {Q : VK} {k k' : Bool} (I : Inv X pins σ H s) (q : Q (.bl k) H) (e : k = k') : EP X pins σ Q (.bool k') s := by
 subst e
 exact ⟨.bl k, H, I, rfl, q⟩
theorem z6T : OpR X (compareOp .Lt) (rI0 λ i j => .bl (decide (i < j))) := opB0 λ _ _ _ _ _ _ _ q => lt_int q
theorem z6M : OpR X (compareOp .LtE) (rI0 λ i j => .bl (decide (i <= j))) := opB0 λ _ _ _ _ _ _ _ q => le_int q
theorem z7f : OpR X (compareOp .Gt) (rI0 λ i j => .bl (decide (j < i))) := opB0 λ _ _ _ _ _ _ _ q => gt_int q
theorem z6g : OpR X (compareOp .GtE) (rI0 λ i j => .bl (decide (j <= i))) := opB0 λ _ _ _ _ _ _ _ q => ge_int q
theorem z4C : OpR X (compareOp .Is) (λ x y H Q => y = .non /\ Q (.bl (decide (x = .non))) H) := by
 intro pins s σ H x y v u Q I rx ry h
 obtain ⟨rfl, q⟩ := h
 cases ry
 refine is_none_gen (z1q I q ?_)
 cases x <;> first
  | (cases rx; rfl)
  | (obtain ⟨t, rfl⟩ := rx; rfl)
theorem z3c : OpR X (compareOp .IsNot) (λ x y H Q => y = .non /\ Q (.bl (!decide (x = .non))) H) := by
 intro pins s σ H x y v u Q I rx ry h
 obtain ⟨rfl, q⟩ := h
 cases ry
 refine isnot_none_gen (z1q I q ?_)
 cases x <;> first
  | (cases rx; rfl)
  | (obtain ⟨t, rfl⟩ := rx; rfl)
theorem OpR.or {f : Value -> Value -> Sem Value} {r r' : R2} (h : OpR X f r) (h' : OpR X f r') : OpR X f (λ x y H Q => r x y H Q \/ r' x y H Q) := by
 intro pins s σ H x y v u Q I rx ry q
 rcases q with q | q
 ·exact h pins s σ H x y v u Q I rx ry q
 ·exact h' pins s σ H x y v u Q I rx ry q
theorem z7l (b : Expr) {op : CmpOp} (h : op ≠ .In := by decide) (h2 : op ≠ .NotIn := by decide) : behindInMarks op b = false := by
 have e1 : (op == CmpOp.In) = false := by cases op <;> first | rfl | exact absurd rfl h
 have e2 : (op == CmpOp.NotIn) = false := by cases op <;> first | rfl | exact absurd rfl h2
 cases b <;> simp [behindInMarks, e1, e2]
theorem z3I {op : CmpOp} {r : R2} (ho : OpR X (compareOp op) r) (ha : PE X a ta) (hb : PE X b tb) (hm : behindInMarks op b = false) : PE X (.Compare a [op] [b] pos) (tOp r ta tb) := by
 intro pins s σ H Q I h
 exact wpAny_Compare1 (binT ha hb I h λ v u s2 x y H2 I2 rx ry q => ho pins s2 σ H2 x y v u Q I2 rx ry q) hm
noncomputable def z4O (t : TE) : TT := λ σ H Q => t σ H λ x H' => ∃ k, x = .bl k /\ Q k H'
theorem z3B {op : CmpOp} {r : R2} (ho : OpR X (compareOp op) r) (ha : PE X a ta) (hb : PE X b tb) (hm : behindInMarks op b = false) : PT X (.Compare a [op] [b] pos) (z4O (tOp r ta tb)) := by
 intro pins s σ H Q I h
 refine wpAny_isTrue_Compare1 (thn (ha pins s σ H _ I h) λ v s1 ⟨x, H1, I1, r1, q1⟩ => thn (hb pins s1 σ H1 _ I1 q1) λ u s2 ⟨y, H2, I2, r2, q2⟩ =>
  thn (ho pins s2 σ H2 x y v u _ I2 r1 r2 q2) λ c s3 ⟨z, H3, I3, r3, k, e, q3⟩ => ?_) hm
 subst e
 cases r3
 exact wpAny_truthy_bool ⟨H3, I3, q3⟩
noncomputable def q8Z (r r' : R2) (ta tb tc : TE) : TE := λ σ H Q => ta σ H λ x H1 => tb σ H1 λ y H2 => r x y H2 λ z H3 => ∃ k, z = .bl k /\
 (if k = true then tc σ H3 λ w' H4 => r' y w' H4 Q else Q (.bl false) H3)
theorem z1a {op op' : CmpOp} {r r' : R2} (ho : OpR X (compareOp op) r) (ho' : OpR X (compareOp op') r') (ha : PE X a ta) (hb : PE X b tb) (hc : PE X c tc)
  (hm : lastMarks [op, op'] [b, c] = false := by with_unfolding_all rfl) : PE X (.Compare a [op, op'] [b, c] pos) (q8Z r r' ta tb tc) := by
 intro pins s σ H Q I h
 refine Compare_chain (thn (ha pins s σ H _ I h) λ v s1 ⟨x, H1, I1, r1, q1⟩ => chain_link (thn (hb pins s1 σ H1 _ I1 q1) λ u s2 ⟨y, H2, I2, r2, q2⟩ =>
  thn (ho pins s2 σ H2 x y v u _ I2 r1 r2 q2) λ d s3 ⟨z, H3, I3, r3, k, e, q3⟩ => ?_)) hm
 subst e
 cases r3
 refine wpAny_truthy_bool ?_
 cases k with
 | false => exact ite_ff ⟨.bl false, H3, I3, rfl, q3⟩
 | true => exact ite_tt (chain_last (thn (hc pins s3 σ H3 _ I3 q3) λ w' s4 ⟨z', H4, I4, r4, q4⟩ => ho' pins s4 σ H4 y z' u w' Q I4 r2 r4 q4))
theorem z0h {op op' : CmpOp} {r r' : R2} (ho : OpR X (compareOp op) r) (ho' : OpR X (compareOp op') r') (ha : PE X a ta) (hb : PE X b tb) (hc : PE X c tc)
  (hm : lastMarks [op, op'] [b, c] = false := by with_unfolding_all rfl) : PT X (.Compare a [op, op'] [b, c] pos) (z4O (q8Z r r' ta tb tc)) := by
 intro pins s σ H Q I h
 refine isTrue_chain (thn (ha pins s σ H _ I h) λ v s1 ⟨x, H1, I1, r1, q1⟩ => test_link (thn (hb pins s1 σ H1 _ I1 q1) λ u s2 ⟨y, H2, I2, r2, q2⟩ =>
  thn (ho pins s2 σ H2 x y v u _ I2 r1 r2 q2) λ d s3 ⟨z, H3, I3, r3, k, e, q3⟩ => ?_)) hm
 subst e
 cases r3
 refine wpAny_truthy_bool ?_
 cases k with
 | false =>
  obtain ⟨k', e', q'⟩ := q3
  cases e'
  exact ite_ff ⟨H3, I3, q'⟩
 | true =>
  refine ite_tt (test_last (thn (hc pins s3 σ H3 _ I3 q3) λ w' s4 ⟨z', H4, I4, r4, q4⟩ => thn (ho' pins s4 σ H4 y z' u w' _ I4 r2 r4 q4) λ d' s5 ⟨z2, H5, I5, r5, k2, e2, q5⟩ => ?_))
  subst e2
  cases r5
  exact wpAny_truthy_bool ⟨H5, I5, q5⟩
noncomputable def TruV (K : PySem.W.Frag) (x : V) (H : Hp) (k : Bool) : Prop :=
 match x with
 | .non => k = false
 | .bl b => k = b
 | .int i => k = (i != 0)
 | .str y => y.length <= sizeLine /\ k = ((y.length : Int) != 0)
 | .byt y => y.size <= sizeLine /\ k = ((y.size : Int) != 0)
 | .ref p => (∃ xs, SqL K H p xs /\ k = !xs.isEmpty) \/ (∃ xs, SqT K H p xs /\ k = !xs.isEmpty) \/ ∃ kvs, H p = some (.dK kvs) /\ k = !kvs.isEmpty
 | _ => False
theorem q8f {κ : Type} {kvs : List (κ × V)} {vs : List (κ × Value)} (r : KV kvs vs) : (!vs.isEmpty) = !kvs.isEmpty := by
 cases r <;> rfl
theorem q4L {xs : List V} {its : List Value} (r : Vals xs its) : (!its.toArray.isEmpty) = !xs.isEmpty := by
 cases r <;> simp
theorem q3X : (sizeLine : Nat) < 2 ^ 63 := by rw [sizeLine_eq]; decide
theorem q7a : TruR X (λ x H Q => ∃ k, TruV X.K x H k /\ Q k H) := by
 intro pins s σ H x v Q I rx h
 obtain ⟨k, e, q⟩ := h
 have hl := q3X
 have hs : sizeLine = 16777216 := sizeLine_eq
 cases x with
 | non =>
  cases rx
  have e' : k = false := e
  subst e'
  exact truthy_none ⟨H, I, q⟩
 | bl b =>
  cases rx
  have e' : k = b := e
  subst e'
  exact wpAny_truthy_bool ⟨H, I, q⟩
 | int i =>
  obtain ⟨t, rfl⟩ := rx
  have e' : k = (i != 0) := e
  subst e'
  exact PySem.P.truthy_int ⟨H, I, q⟩
 | str y =>
  obtain ⟨t, rfl⟩ := rx
  obtain ⟨hy, e'⟩ : y.length <= sizeLine /\ k = ((y.length : Int) != 0) := e
  subst e'
  exact PySem.P.truthy_str (by omega) ⟨H, I.tok _, q⟩
 | byt y =>
  obtain ⟨t, rfl⟩ := rx
  obtain ⟨hy, e'⟩ : y.size <= sizeLine /\ k = ((y.size : Int) != 0) := e
  subst e'
  exact PySem.W.truthy_bytes (by omega) ⟨H, I.tok _, q⟩
 | ref p =>
  cases rx
  have e' : (∃ xs, SqL X.K H p xs /\ k = !xs.isEmpty) \/ (∃ xs, SqT X.K H p xs /\ k = !xs.isEmpty) \/ ∃ kvs, H p = some (.dK kvs) /\ k = !kvs.isEmpty := e
  rcases e' with ⟨xs, hx, e'⟩ | ⟨xs, hx, e'⟩ | ⟨kvs, hx, e'⟩
  ·subst e'
   obtain ⟨its, r, pl, hz⟩ := I.list hx
   have hlen := r.length
   exact wpAny_truthy_list pl.isList (by simp only [List.size_toArray]; omega) ⟨H, I.tok _, by rw [q4L r]; exact q⟩
  ·subst e'
   obtain ⟨its, r, pl, hz⟩ := I.tuple hx
   have hlen := r.length
   exact truthy_tuple pl (by simp only [List.size_toArray]; omega) ⟨H, I.tok _, by rw [q4L r]; exact q⟩
  ·subst e'
   obtain ⟨hz, hS, vs, r, m⟩ : kvs.length <= sizeLine /\ (p == sysModules) = false /\ ∃ vs, KV kvs vs /\ s.heap.DictOf (q6t X.prog X.w) p vs := I.hok p _ hx
   have hlen : kvs.length = vs.length := Paired.length r
   exact wpAny_truthy_dict hS m (by omega) ⟨H, I.tok _, by rw [q8f r]; exact q⟩
 | _ => exact (show False from e).elim
theorem q6U (ha : PE X a ta) (he : ∀ whole, isTrue a X.env whole = (do let v ← whole; standAt a.pos; holding [v] (truthy v))) :
  PT X a (λ σ H Q => ta σ H λ x H' => ∃ k, TruV X.K x H' k /\ Q k H') := by
 intro pins s σ H Q I h
 exact isTrue_plain (thn (ha pins s σ H _ I h) λ v s1 ⟨x, H1, I1, r1, q1⟩ => q7a pins s1 σ H1 x v Q I1 r1 q1) (he _)
theorem q5e {x : V} {us : List Value} (r : Vals [x] us) : ∃ u, us = [u] /\ RelV x u := by
 cases r with
 | cons r1 r2 => cases r2; exact ⟨_, rfl, r1⟩
theorem z4A {x y : V} {us : List Value} (r : Vals [x, y] us) : ∃ u w', us = [u, w'] /\ RelV x u /\ RelV y w' := by
 cases r with
 | cons r1 r2 =>
  cases r2 with
  | cons r3 r4 => cases r4; exact ⟨_, _, rfl, r1, r3⟩
theorem q8i (hc : X.calm = true) : q2h X (.builtin "min") (λ xs H Q => ∃ i j, xs = [.int i, .int j] /\ Q (.int (if j < i then j else i)) H) := by
 intro pins s σ H xs us Q I r h
 obtain ⟨i, j, rfl, q⟩ := h
 obtain ⟨u, w', rfl, ⟨t, rfl⟩, ⟨t', rfl⟩⟩ := z4A r
 refine min_two_ints (I.ok.hd hc) λ h' tk k => ⟨_, H, I.kept k, ?_, q⟩
 by_cases hj : j < i
 ·rw [if_pos hj, if_pos hj]; exact ⟨_, rfl⟩
 ·rw [if_neg hj, if_neg hj]; exact ⟨_, rfl⟩
theorem q5X : q2h X (.type "int") (λ xs H Q => (∃ i, xs = [.int i] /\ Q (.int i) H) \/ ∃ k, xs = [.bl k] /\ Q (.int (if k then 1 else 0)) H) := by
 intro pins s σ H xs us Q I r h
 rcases h with ⟨i, rfl, q⟩ | ⟨k, rfl, q⟩
 ·obtain ⟨u, rfl, t, rfl⟩ := q5e r
  exact call_int_int ⟨.int i, H, I, ⟨_, rfl⟩, q⟩
 ·obtain ⟨u, rfl, r1⟩ := q5e r
  cases r1
  exact call_int_bool ⟨.int (if k then 1 else 0), H, I.tok _, ⟨_, rfl⟩, q⟩
end
end L2
namespace L2
open PySem PySem.Spec PyProof.Rows
structure ObjM (h : Heap) (x dx C : Addr) (mA : Str -> Option Value) : Prop where
 obj : h.get? x = some (PySem.W.instObj C dx)
 ns : h.Ns1 dx mA
 ne : dx ≠ x
section
variable {prog : Program} {w : World} {A : Around} {E : Value -> Shared -> Prop} {s : Shared} {K : PySem.W.Frag} {x dx C f : Addr} {mA : Str -> Option Value} {name : Str} {v : Value}
end
section
variable {P : Program} {w : World} {H H' : Hp} {h h' : Heap} {a C dx : Addr} {fs fs' : List (Str × V)}
end
structure Cls (K : PySem.W.Frag) (C : Addr) : Prop where
 pg : PySem.W.plainGet K C Str.empty = true
 hd : PySem.W.hasDictIn K C = true
 po : PySem.W.plainOver K C = true
 sa : PySem.W.findIn K (.ref C) "__setattr__" = some (some (.builtin "object.__setattr__"))
structure Con (K : PySem.W.Frag) (C : Addr) (f : Str) (v : V) (u : Value) : Prop where
 at_ : PySem.W.findIn K (.ref C) f = some (some u)
 rel : RelV v u
 get : PySem.W.specialIn K u "__get__" = some none
 cp : PySem.W.copiedNames.contains f = false
structure Meth (K : PySem.W.Frag) (C : Addr) (m : Str) (f : Addr) : Prop where
 at_ : PySem.W.findIn K (.ref C) m = some (some (.ref f))
 fn : PySem.W.isFn K (.ref f) = true
 kp : PySem.W.keepIn K (.ref f) = true
section
variable {X : Cx} {pins : List (Addr × Obj)} {σ : St} {H : Hp} {s : Shared} {a C dx : Addr} {fs : List (Str × V)} {f : Str} {v : V} {A : Around} {E : Value -> Shared -> Prop}
end
section
variable {X : Cx} {o e value : Expr} {f : Str} {pos pos' tpos : Pos} {ta tv : TE}
end
section
variable {X : Cx} {pins : List (Addr × Obj)} {σ : St} {H : Hp} {s : Shared} {A : Around} {E : Value -> Shared -> Prop} {Q : Value -> Shared -> Prop} {c : Value} {b : Bool}
inductive TyOf (K : PySem.W.Frag) (H : Hp) : V -> Value -> Prop where
 | non : TyOf K H .non (.type "NoneType")
 | bl (x : Bool) : TyOf K H (.bl x) (.type "bool")
 | int (i : Int) : TyOf K H (.int i) (.type "int")
 | str (x : Str) : TyOf K H (.str x) (.type "str")
 | flt (x : UInt64) : TyOf K H (.flt x) (.type "float")
 | lst {a : Addr} {xs : List V} (e : H a = some (.lst xs)) : TyOf K H (.ref a) (.type "list")
 | frz {a : Addr} {o : Obj} {xs : List V} (e : H a = some (.frz o (.lst xs))) : TyOf K H (.ref a) (.type "list")
 | tup {a : Addr} {xs : List V} (e : H a = some (.tup xs)) : TyOf K H (.ref a) (.type "tuple")
 | dK {a : Addr} {kvs : List (Key × V)} (e : H a = some (.dK kvs)) : TyOf K H (.ref a) (.type "dict")
 | dT {a : Addr} {kvs : List (List Key × V)} (e : H a = some (.dT kvs)) : TyOf K H (.ref a) (.type "dict")
 | ins {a C dx : Addr} {fs : List (Str × V)} (e : H a = some (.ins C dx fs)) (cl : Cls K C) (ha : PySem.W.findIn K (.ref C) "__class__" = some (some (.builtin "object.__class__")))
   (hn : PySem.W.specialIn K (.builtin "object.__class__") "__get__" = some (some (.builtin "getset_descriptor.__get__"))) (htk : PySem.W.takesIn K (.builtin "object.__class__") = some true)
   (hm : PySem.W.mroIn K C (.type "object") = some true) : TyOf K H (.ref a) (.ref C)
end
end L2
namespace L2
open PySem PySem.Spec PyProof.Rows
structure Room (k : Nat) (A : Around) : Prop where
 hd : A.handled = none
 dp : A.depth + 3 * k + 5 < recursionLimit
 un : A.units + 16 * k + 200 < cLine
theorem Room.deeper {k : Nat} {A : Around} (r : Room (k + 1) A) (env : Env) : Room k (A.deeper env) :=
 ⟨r.hd, by have := r.dp; show A.depth + 1 + 3 * k + 5 < _; omega, by have := r.un; show A.units + 3 + 16 * k + 200 < _; omega⟩
theorem Room.depth {k : Nat} {A : Around} (r : Room k A) : A.depth < recursionLimit := by have := r.dp; omega
theorem Room.units {k : Nat} {A : Around} (r : Room k A) : A.units + 64 < cLine := by have := r.un; omega
noncomputable def tNil : TA := λ _ H Q => Q [] H
noncomputable def z6Q (ta : TE) (tr : TA) : TA := λ σ H Q => ta σ H λ x H1 => tr σ H1 λ xs H2 => Q (x :: xs) H2
section
variable {X : Cx} {e : Expr} {es : List Expr} {te : TE} {t : TA} {pos : Pos}
theorem q4J : PA X [] tNil := λ _ _ _ _ H Q I h => Calls.spliced_nil ⟨[], H, I, .nil, h⟩
theorem q2a (ha : PE X e te) (hr : PA X es t) (hs : starEach (e :: es) X.env = (false, eval e X.env) :: starEach es X.env := by rfl) : PA X (e :: es) (z6Q te t) := by
 intro pos pins s σ H Q I h
 rw [hs]
 show wpAny _ _ (spliced ((false, eval e X.env) :: backTo pos (starEach es X.env))) _ _ s
 refine Calls.spliced_cons (thn (ha pins s σ H _ I h) λ u s1 ⟨x, H1, I1, r1, q1⟩ => ?_)
 exact thn (hr pos pins s1 σ H1 _ I1 q1) λ us s2 ⟨xs, H2, I2, r2, q2⟩ => ⟨x :: xs, H2, I2, .cons r1 r2, q2⟩
noncomputable def tTup (t : TA) : TE := λ σ H Q => t σ H λ xs H1 => xs.length <= sizeLine /\ ∀ p, H1 p = none -> Q (.ref p) (upd H1 p (.tup xs))
noncomputable def tLst (t : TA) : TE := λ σ H Q => t σ H λ xs H1 => xs.length <= sizeLine /\ ∀ p, H1 p = none -> Q (.ref p) (upd H1 p (.lst xs))
theorem q8J {x1} (h : PA X es t) : PE X (.Tuple es x1 pos) (tTup t) := by
 intro pins s σ H Q I hq
 refine wpAny_Tuple_spliced (thn (h pos pins s σ H _ I hq) λ us s1 ⟨xs, H1, I1, r, z, q⟩ => ⟨by rw [← r.length]; exact z, ?_⟩)
 have hf : H1 s1.heap.objs.size = none := I1.hok.fresh (Nat.le_refl _)
 refine ⟨.ref s1.heap.objs.size, upd H1 s1.heap.objs.size (.tup xs), I1.laid (t' := s1.toks) (λ b u e => Heap.get?_push_of_some _ e) (Nat.le_refl _) ?_, rfl, q _ hf⟩
 exact ⟨z, us, r, ⟨_, Heap.get?_push_size _ rfl, ⟨rfl, rfl⟩, _, rfl⟩⟩
theorem z4b (h : PA X es t) : PE X (.List es pos) (tLst t) := by
 intro pins s σ H Q I hq
 refine wpAny_List_spliced (thn (h pos pins s σ H _ I hq) λ us s1 ⟨xs, H1, I1, r, z, q⟩ => ⟨by rw [← r.length]; exact z, ?_⟩)
 have hf : H1 s1.heap.objs.size = none := I1.hok.fresh (Nat.le_refl _)
 refine ⟨.ref s1.heap.objs.size, upd H1 s1.heap.objs.size (.lst xs), I1.laid (t' := s1.toks) (λ b u e => Heap.get?_push_of_some _ e) (Nat.le_refl _) ?_, rfl, q _ hf⟩
 exact ⟨z, us, 0, r, Heap.get?_push_size _ rfl⟩
end
noncomputable abbrev Sp := List V -> Hp -> VK -> XK -> Prop
noncomputable abbrev CXT := List Env -> Hp -> Shared -> XK -> Value -> Shared -> Prop
structure Env0 (P : Program) (w : World) (K : PySem.W.Frag) (mg : Str -> Option Value) (base : Heap) (A : Around) (outer : List Env) (s : Shared) (H : Hp) : Prop where
 frames : A.frames = some outer
 mod : Mod K mg base
 bs : ∀ b o, base.get? b = some o -> s.heap.get? b = some o /\ H b = none
 bsz : base.objs.size <= s.heap.objs.size
 funs : s.heap.FunFrames base outer
 frf : ∀ b ∈ frs outer, H b = none
 hok : HOk P w H s.heap
 bare : AllBare s.gens
noncomputable def CE (outer : List Env) (P : Program) (w : World) (H : Hp) (s : Shared) (Q : VK) (u : Value) (s' : Shared) : Prop :=
 ∃ v H', s'.os = s.os /\ AllBare s'.gens /\ Un (frs outer) [] H H' s.heap s'.heap /\ HOk P w H' s'.heap /\ RelV v u /\ Q v H'
noncomputable def CR (CX : CXT) (outer : List Env) (P : Program) (w : World) (H : Hp) (s : Shared) (Q : VK) (E : XK) (r : Result) (s' : Shared) : Prop :=
 match r with
 | .ok (.ret u) => CE outer P w H s Q u s'
 | .ok _ => False
 | .error e => CX outer H s E e s'
structure FnOk (P : Program) (w : World) (K : PySem.W.Frag) (mg : Str -> Option Value) (base : Heap) (CX : CXT) (k : Nat) (f : Addr) (fd : FuncData) (ps : List Str) (sp : Sp) : Prop where
 len : ∀ vs H Q E, sp vs H Q E -> vs.length = ps.length
 run : ∀ (A : Around) (outer : List Env) (s : Shared) (H : Hp) (args : Args) (us : List Value) (vs : List V) (Q : VK) (E : XK), Room k A -> Env0 P w K mg base A outer s H -> BindsTo s fd args (ps.zip us) -> Vals vs us -> sp vs H Q E ->
  codeAny (model P w) A (.call (.ref f) args) (CR CX outer P w H s Q E) s
section
variable {X : Cx} {pins : List (Addr × Obj)} {σ : St} {H : Hp} {s s' : Shared}
theorem Inv.env0 (I : Inv X pins σ H s) : Env0 X.prog X.w X.K X.mg X.base X.A X.stack s H :=
 ⟨I.ok.frames, I.ok.mod, I.bs, Nat.le_trans I.ok.bsz I.sz, I.stack, I.stkFree, I.hok, I.bare⟩
theorem Inv.after {Q : VK} {u : Value} (I : Inv X pins σ H s) (h : CE X.stack X.prog X.w H s Q u s') : EP X pins σ Q u s' := by
 obtain ⟨v, H', os, bare, un, hok, r, q⟩ := h
 obtain ⟨hh, g, d, t, os'⟩ := s'
 obtain rfl : os' = s.os := os
 exact ⟨v, H', I.call (h' := hh) (g' := g) (d' := d) (t' := t) (ch := []) un hok bare (λ b z => absurd z (by simp)), r, q⟩
end
noncomputable def q6m (K : PySem.W.Frag) (fd : FuncData) (ps : List Str) (ds : List Value) : Prop :=
 ∀ (s : Shared) (us : List Value), K.In s.heap -> (us ++ ds).length = ps.length -> BindsTo s fd ⟨us, []⟩ (ps.zip (us ++ ds))
theorem q6m.all {K : PySem.W.Frag} {fd : FuncData} {ps : List Str} (h : ∀ us : List Value, us.length = ps.length -> bindArgs fd ⟨us, []⟩ = pure (ps.zip us)) : q6m K fd ps [] := λ s us _ hl => by
 rw [List.append_nil] at hl ⊢
 exact .of_eq (h us hl)
noncomputable def q9e (CX : CXT) (X : Cx) (E : XK) : Prop := ∀ (pins : List (Addr × Obj)) (σ : St) (H : Hp) (s : Shared) (e : Value) (s' : Shared), Inv X pins σ H s -> CX X.stack H s E e s' -> X.xe e s'
section
variable {X : Cx} {CX : CXT} {k : Nat} {f C : Addr} {fd : FuncData} {ps : List Str} {sp : Sp} {dvs : List V} {ds : List Value} {E : XK} {x m : Str} {p pos apos : Pos} {e o : Expr} {es : List Expr} {ta : TE} {t : TA}
structure Mk (K : PySem.W.Frag) (C f : Addr) : Prop where
 makes : PySem.W.makesIn K C = true
 init : PySem.W.findIn K (.ref C) "__init__" = some (some (.ref f))
 fn : PySem.W.isFn K (.ref f) = true
 kp : PySem.W.keepIn K (.ref C) = true
end
section
variable {X : Cx} {CX : CXT} {k : Nat} {f C : Addr} {fd : FuncData} {ps ks : List Str} {sp : Sp} {E : XK} {x m : Str} {p pos apos kpos : Pos} {e o : Expr} {es : List Expr} {kws : List Keyword} {te ta : TE} {t tk : TA} {nm : Option Str}
structure KBinds (K : PySem.W.Frag) (fd : FuncData) (ps ks : List Str) (g : List Value -> List Value -> List Value) (gV : List V -> List V -> List V) : Prop where
 to : ∀ (s : Shared) (us ws : List Value), K.In s.heap -> (g us ws).length = ps.length -> BindsTo s fd ⟨us, ks.zip ws⟩ (ps.zip (g us ws))
 rel : ∀ {vs : List V} {us : List Value} {zs : List V} {ws : List Value}, Vals vs us -> Vals zs ws -> Vals (gV vs zs) (g us ws)
variable {g : List Value -> List Value -> List Value} {gV : List V -> List V -> List V}
end
structure FnScope (N P : List Str) (sc : Scope) : Prop where
 kind : sc.kind = .function
 co : sc.isCoroutine = false
 gen : sc.isGenerator = false
 nd : N.Nodup
 pre : N.take P.length = P
 par : ∀ x ∈ P, sc.names.lookup x = some .local \/ sc.names.lookup x = some .cell
 nofree : ∀ y ∈ sc.names, y.2 ≠ .free
theorem q6h {kindOf : Str -> Option NameKind} {x : Str} : ∀ {binds : List (Str × Value)} {m : Str -> Option Value}, (∀ v, (x, v) ∉ binds) -> bindL kindOf binds m x = m x
 | [], _, _ => rfl
 | (n, v) :: r, m, h => by
  unfold bindL
  rw [q6h λ w hw => h w (List.mem_cons_of_mem _ hw)]
  split
  ·have : x ≠ n := by rintro rfl; exact h v List.mem_cons_self
   simp [this]
  ·rfl
theorem q6i {kindOf : Str -> Option NameKind} {x : Str} : ∀ {binds : List (Str × Value)} {m : Str -> Option Value}, (∀ v, (x, v) ∉ binds) -> bindC kindOf binds m x = m x
 | [], _, _ => rfl
 | (n, v) :: r, m, h => by
  unfold bindC
  rw [q6i λ w hw => h w (List.mem_cons_of_mem _ hw)]
  split
  ·rfl
  ·have : x ≠ n := by rintro rfl; exact h v List.mem_cons_self
   simp [this]
theorem q5P {kindOf : Str -> Option NameKind} {x : Str} {v : Value} : ∀ {P : List Str} {vs : List Value} {i : Nat} {m : Str -> Option Value}, P.Nodup -> P[i]? = some x -> vs[i]? = some v -> kindOf x = some .local ->
  bindL kindOf (P.zip vs) m x = some v
 | [], _, _, _, _, h, _, _ => by simp at h
 | _ :: _, [], _, _, _, _, h, _ => by simp at h
 | p :: P, w :: vs, 0, m, nd, h1, h2, hk => by
  simp at h1 h2; subst h1; subst h2
  show bindL kindOf ((p, w) :: P.zip vs) m p = _
  unfold bindL
  rw [q6h λ v hv => (List.nodup_cons.mp nd).1 (List.of_mem_zip hv).1, if_pos hk]
  simp
 | p :: P, w :: vs, i + 1, m, nd, h1, h2, hk => by
  show bindL kindOf ((p, w) :: P.zip vs) m x = _
  unfold bindL
  exact q5P (i := i) (List.nodup_cons.mp nd).2 (by simpa using h1) (by simpa using h2) hk
theorem q6b {kindOf : Str -> Option NameKind} {x : Str} {v : Value} : ∀ {P : List Str} {vs : List Value} {i : Nat} {m : Str -> Option Value}, P.Nodup -> P[i]? = some x -> vs[i]? = some v -> kindOf x ≠ some .local ->
  bindC kindOf (P.zip vs) m x = some v
 | [], _, _, _, _, h, _, _ => by simp at h
 | _ :: _, [], _, _, _, _, h, _ => by simp at h
 | p :: P, w :: vs, 0, m, nd, h1, h2, hk => by
  simp at h1 h2; subst h1; subst h2
  show bindC kindOf ((p, w) :: P.zip vs) m p = _
  unfold bindC
  rw [q6i λ v hv => (List.nodup_cons.mp nd).1 (List.of_mem_zip hv).1, if_neg hk]
  simp
 | p :: P, w :: vs, i + 1, m, nd, h1, h2, hk => by
  show bindC kindOf ((p, w) :: P.zip vs) m x = _
  unfold bindC
  exact q6b (i := i) (List.nodup_cons.mp nd).2 (by simpa using h1) (by simpa using h2) hk
noncomputable def start (N : List Str) (vs : List V) : St := vs.map some ++ List.replicate (N.length - vs.length) none
noncomputable def cxOf (CX : CXT) (P : Program) (w : World) (K : PySem.W.Frag) (mg : Str -> Option Value) (base : Heap) (N : List Str) (qual : Str) (scope : Scope) (f : Addr) (cd : Value) (A : Around) (outer : List Env) (s : Shared) (H : Hp) (E : XK) : Cx where
 prog := P
 w := w
 K := K
 mg := mg
 base := base
 A := A.deeper (envOfC qual scope s.heap.objs.size f cd)
 N := N
 s₀ := s
 H₀ := H
 env := envOfC qual scope s.heap.objs.size f cd
 outer := outer
 stack := envOfC qual scope s.heap.objs.size f cd :: outer
 ex := []
 calm := true
 fn := λ _ => true
 pn := []
 xe := λ e s' => wpAny (model P w) (A.deeper (envOfC qual scope s.heap.objs.size f cd)) (leaving (envOfC qual scope s.heap.objs.size f cd) e) (λ _ s'' => CX outer H s E e s'') (λ e' s'' => CX outer H s E e' s'') s'
theorem q6Z {sc : Scope} {n : Nat} {x : Str} (h : sc.names.lookup x = some .cell) : ∃ c, (cellsFrom n sc.names []).lookup x = some c := by
 have q := PySem.W.cellsFrom_some sc.names n [] (.inl h)
 exact Option.isSome_iff_exists.mp q
theorem q9h {CX : CXT} {P : Program} {w : World} {K : PySem.W.Frag} {mg : Str -> Option Value} {base : Heap} {N ps : List Str} {qual : Str} {scope : Scope} {f : Addr} {cd : Value} {A : Around} {outer : List Env} {s s1 : Shared} {H : Hp} {E : XK} {us : List Value} {vs : List V}
  (S : FnScope N ps scope) (hd : A.handled = none) (e0 : Env0 P w K mg base A outer s H) (hl : vs.length = ps.length) (r : Vals vs us)
  (x : InCallC s s.heap.objs.size (bindL (envOfC qual scope s.heap.objs.size f cd).kindOf (ps.zip us) λ _ => none) (cellsFrom (s.heap.objs.size + 1) scope.names []) (bindC (envOfC qual scope s.heap.objs.size f cd).kindOf (ps.zip us) λ _ => none) s1) :
  Inv (cxOf CX P w K mg base N qual scope f cd A outer s H E) [] (start N vs) H s1 := by
 have hpl : ps.length <= N.length := by have := congrArg List.length S.pre; rw [List.length_take] at this; omega
 obtain ⟨h1, tk, rfl, hk⟩ := x.done
 have noA : ∀ b : Addr, b ∉ (cxOf CX P w K mg base N qual scope f cd A outer s H E).ex := λ b z => absurd (show b ∈ ([] : List Addr) from z) (by simp)
 refine ⟨⟨e0.mod, S.kind, rfl, rfl, Nat.le_refl _, λ y z c h1 h2 => ?_, λ y hy => ?_, λ y c _ h => ?_, λ _ => hd, Around.frames_deeper e0.frames, .inr ⟨rfl, rfl⟩, λ b z => absurd z (noA b), e0.bs, e0.bsz, λ b _ _ => noA b, λ b z => absurd z (noA b), e0.funs, e0.frf⟩,
  rfl, e0.bare, Un.kept hk, ⟨_, x.toInCall.ns, λ i y v h1 h2 h3 => ?_⟩, λ y c h => ⟨_, x.cell y c h⟩, e0.hok.fresh (Nat.le_refl _), λ y c h => ?_, λ p hp => absurd (show p ∈ ([] : List (Addr × Obj)) from hp) (by simp), e0.hok.kept hk, ?_⟩
 ·exact name_of_addr x.apart (PySem.mem_of_lookup h1) (PySem.mem_of_lookup h2)
 ·have hy : scope.names.lookup y = some .cell \/ scope.names.lookup y = some .free := hy
  rcases hy with hy | hy
  ·exact q6Z hy
  ·exact absurd rfl (S.nofree _ (PySem.mem_of_lookup hy))
 ·exact Nat.le_of_lt (x.above y c (PySem.mem_of_lookup h))
 ·have hi : i < vs.length := by
   unfold start at h2
   by_cases hi : i < vs.length
   ·exact hi
   ·rw [List.getElem?_append_right (by simpa using hi)] at h2
    rw [List.getElem?_replicate] at h2
    split at h2 <;> cases h2
  have ha : vs[i]? = some v := by
   unfold start at h2
   rw [List.getElem?_append_left (by simpa using hi), List.getElem?_map] at h2
   cases e : vs[i]? with
   | none => rw [e] at h2; cases h2
   | some a => rw [e] at h2; cases h2; rfl
  obtain ⟨u, hu, rv⟩ := r.get ha
  have hp : ps[i]? = some y := by
   rw [← S.pre, List.getElem?_take_of_lt (by omega)]; exact h1
  have ndP : ps.Nodup := by rw [← S.pre]; exact S.nd.sublist (List.take_sublist _ _)
  refine ⟨u, rv, ?_⟩
  rcases S.par y (List.mem_of_getElem? hp) with k | k
  ·exact .inl ⟨k, q5P ndP hp hu k⟩
  ·obtain ⟨c, e⟩ := q6Z (n := s.heap.objs.size + 1) k
   refine .inr ⟨.inl k, c, e, ?_⟩
   have q := x.cell y c e
   rw [q6b ndP hp hu (by show scope.names.lookup y ≠ _; rw [k]; decide)] at q
   exact q
 ·exact e0.hok.fresh (Nat.le_of_lt (x.above y c (PySem.mem_of_lookup h)))
 ·unfold start
  show _ = N.length
  rw [List.length_append, List.length_map, List.length_replicate]
  omega
theorem z6k {CX : CXT} {P : Program} {w : World} {K : PySem.W.Frag} {mg : Str -> Option Value} {base : Heap} {k : Nat} {f : Addr} {name qual : Str} {params : Arguments} {body : List Stmt} {scope : Scope} {dV kV doc pm cdv ct oc : Value} {an od : Option Addr}
  {osl : Array (Option Value)} {N ps : List Str} {sp : Sp} (lk : K.lookup f = some ⟨oc, od, .func (PySem.W.fnOf name qual params body scope dV kV doc pm an cdv ct), osl⟩) (hcd : PySem.W.codeIn K cdv qual = true) (S : FnScope N ps scope)
  (len : ∀ vs H Q E, sp vs H Q E -> vs.length = ps.length)
  (hbody : ∀ (A : Around) (outer : List Env) (s : Shared) (H : Hp) (vs : List V) (Q : VK) (E : XK), Room k (A.deeper (envOfC qual scope s.heap.objs.size f cdv)) -> sp vs H Q E ->
   ∃ t, PSs (cxOf CX P w K mg base N qual scope f cdv A outer s H E) body t /\ t { nx := λ _ H' => Q .non H', rt := Q } (start N vs) H) :
  FnOk P w K mg base CX (k + 1) f (PySem.W.fnOf name qual params body scope dV kV doc pm an cdv ct) ps sp := by
 refine ⟨len, λ A outer s H args us vs Q E hr e0 hb r hsp => ?_⟩
 have hl := len _ _ _ _ hsp
 have KX : K.In s.heap := e0.mod.kin.keeps λ b o e => (e0.bs b o e).1
 have lim : s.heap.NoLimit := e0.mod.nolimit.keeps λ b o e => (e0.bs b o e).1
 have hkind : ∀ y ∈ ps.zip us, scope.names.lookup y.1 = some .local \/ (scope.names.lookup y.1 = some .cell /\ ((cellsFrom (s.heap.objs.size + 1) scope.names []).lookup y.1).isSome = true) := λ ⟨n, v⟩ hy => by
  rcases S.par n (List.of_mem_zip hy).1 with q | q
  ·exact .inl q
  ·exact .inr ⟨q, PySem.W.cellsFrom_some _ _ _ (.inl q)⟩
 refine codeAny_call_function hr.depth (KX _ _ lk) rfl S.co S.gen rfl (PySem.W.codeRec_of KX hcd) (hb _ _ _ _ ?_)
 refine wpAny_newFunctionEnv_cells S.kind hkind λ env he s1 x => ?_
 subst he
 refine ⟨lim.keeps x.toInCall.keep, codeAny_func ?_⟩
 obtain ⟨t, ht, hq⟩ := hbody A outer s H vs Q E (hr.deeper _) hsp
 have I : Inv (cxOf CX P w K mg base N qual scope f cdv A outer s H E) [] (start N vs) H s1 := q9h S hr.hd e0 hl r x
 refine wpAny_mono (ht [] s1 (start N vs) H _ I hq) (λ fl s' hs => ?_) λ e s' hs => hs
 have fin : ∀ {σ' : St} {H' : Hp} {v : V} {u : Value}, Inv (cxOf CX P w K mg base N qual scope f cdv A outer s H E) [] σ' H' s' -> RelV v u -> Q v H' -> CE outer P w H s Q u s' :=
  λ {σ' H' v u} J rv q => ⟨v, H', J.os, J.bare, J.base, J.hok, rv, q⟩
 cases fl with
 | ret u =>
  obtain ⟨v, σ', H', J, rv, q⟩ := hs
  exact fin J rv q
 | next =>
  obtain ⟨σ', H', J, q⟩ := hs
  exact fin (v := V.non) (u := Value.none) J rfl q
 | brk =>
  obtain ⟨_, _, _, q⟩ := hs
  exact False.elim q
 | cont =>
  obtain ⟨_, _, _, q⟩ := hs
  exact False.elim q
end L2
namespace L2
open PySem PySem.Spec PyProof.Rows
section
variable {X : Cx} {x : Str} {p pos : Pos} {e : Expr} {es : List Expr} {t : TA} {id T : String} {r : List V -> Hp -> VK -> Prop}
noncomputable def tCB (r : List V -> Hp -> VK -> Prop) (t : TA) : TE := λ σ H Q => t σ H λ vs H1 => r vs H1 Q
theorem q5v (hc : q2h X (.builtin id) r) (hg : Gl X x) (hm : X.mg x = none) (hv : bootBuiltins x = some (.builtin id)) (ha : PA X (e :: es) t) (hn : x ≠ "__name__" := by decide) (hdb : (x == ("__debug__" : Str)) = false := by decide)
  (he : starEach (e :: es) X.env = (false, eval e X.env) :: starEach es X.env := by rfl) (hpl : (backTo pos (starEach es X.env)).any (·.1) = false := by rfl) : PE X (.Call (.Name x p) (e :: es) [] pos) (tCB r t) := by
 intro pins s σ H Q I h
 refine wpAny_Call_Name_kw (q3b I hg hm hv ?_ hn hdb)
 exact PyProof.Rows.callWith_builtin1 (thn (ha pos pins s σ H _ I h) λ us s1 ⟨vs, H1, I1, r1, q1⟩ => hc pins s1 σ H1 vs us Q I1 r1 q1) he hpl
theorem q5Y (hc : q2h X (.type T) r) (hg : Gl X x) (hm : X.mg x = none) (hv : bootBuiltins x = some (.type T)) (ha : PA X (e :: es) t) (hn : x ≠ "__name__" := by decide) (hdb : (x == ("__debug__" : Str)) = false := by decide)
  (he : starEach (e :: es) X.env = (false, eval e X.env) :: starEach es X.env := by rfl) (hpl : (backTo pos (starEach es X.env)).any (·.1) = false := by rfl) : PE X (.Call (.Name x p) (e :: es) [] pos) (tCB r t) := by
 intro pins s σ H Q I h
 refine wpAny_Call_Name_kw (q3b I hg hm hv ?_ hn hdb)
 exact PyProof.Rows.callWith_type1 (thn (ha pos pins s σ H _ I h) λ us s1 ⟨vs, H1, I1, r1, q1⟩ => hc pins s1 σ H1 vs us Q I1 r1 q1) he hpl
end
end L2
namespace HT
open PySem PyProof.Rows
section
open PySem.SeqAt
open PySem.AutoSeq1 (wpAny_loadPart')
open PySem.MeetsSeq PySem.MeetsSeq2 PySem.MeetsSeq3
end
section
variable {prog : Program} {w : World} {A : Around} {E : Value -> Shared -> Prop} {s : Shared}
theorem cat_tup {t b : Addr} {vs ws : List Value} {Q : Value -> Shared -> Prop} (ht : IsTup s.heap t vs.toArray) (hb : IsTup s.heap b ws.toArray) (hv : vs ≠ [])
  (h1 : ws = [] -> Q (.ref t) s) (h2 : ws ≠ [] -> Q (.ref s.heap.objs.size) { s with heap := s.heap.push { cls := .type "tuple", data := .seq (vs ++ ws).toArray } })
  (hsz : vs.length + ws.length <= sizeLine) : wpAny (model prog w) A (binaryOp .Add (.ref t) (.ref b)) Q E s := by
 obtain ⟨⟨cls, dd, data, sl⟩, ho, hc, n, hd⟩ := id ht
 obtain ⟨⟨cls2, dd2, data2, sl2⟩, ho2, hc2, n2, hd2⟩ := id hb
 simp only at hc hd hc2 hd2
 subst hc hd hc2 hd2
 have e : vs.toArray ++ ws.toArray = (vs ++ ws).toArray := by simp
 by_cases hw : ws = []
 ·exact concat_meets ⟨_, ho, rfl⟩ ⟨_, ho2, rfl⟩ noFill_tuple_add seq_tuple_add PySem.F.slot_tuple_add PySem.F.entry_tuple_add (PySem.F.args_tuple_add_2 _ _)
   (tuple_addW1 t b vs.toArray ws.toArray n n2 dd dd2 sl sl2 (by simpa using hv) (by simp [hw])) ⟨ho, ho2, h1 hw⟩
 ·refine concat_meets ⟨_, ho, rfl⟩ ⟨_, ho2, rfl⟩ noFill_tuple_add seq_tuple_add PySem.F.slot_tuple_add PySem.F.entry_tuple_add (PySem.F.args_tuple_add_2 _ _)
   (tuple_addW2 t b vs.toArray ws.toArray n n2 dd dd2 sl sl2 (by simpa using hv) (by simpa using hw) (by rw [List.size_toArray, List.size_toArray]; exact hsz)) ⟨ho, ho2, ?_⟩
  rw [e]
  exact h2 hw
noncomputable def sIx (n d : Nat) : Option Int -> Nat
 | none => d
 | some v => if v < 0 then (v + (n : Int)).toNat else min v.toNat n
theorem z5l (n d : Nat) (hd : d <= n) (o : Option Int) : sIx n d o <= n := by
 cases o with
 | none => exact hd
 | some v =>
  show (if v < 0 then (v + (n : Int)).toNat else min v.toNat n) <= n
  by_cases hv : v < 0
  ·rw [if_pos hv]; omega
  ·rw [if_neg hv]; exact Nat.min_le_right _ _
theorem q8S (v : Int) (n d : Nat) : (if v < 0 then max (v + (n : Int)) 0 else min v (n : Int)) = ((sIx n d (some v) : Nat) : Int) := by
 show (if v < 0 then max (v + (n : Int)) 0 else min v (n : Int)) = (((if v < 0 then (v + (n : Int)).toNat else min v.toNat n) : Nat) : Int)
 by_cases hv : v < 0
 ·simp only [if_pos hv]; omega
 ·simp only [if_neg hv]; omega
theorem q7R (lo hi : Option Int) (n : Nat) : Builtin.Slice.sliceAdjust lo hi 1 (n : Int) = (((sIx n 0 lo : Nat) : Int), ((sIx n n hi : Nat) : Int)) := by
 have h1 : ¬ ((1 : Int) < 0) := by omega
 unfold Builtin.Slice.sliceAdjust
 simp only [h1, if_false]
 refine Prod.ext ?_ ?_
 ·cases lo with
  | none => rfl
  | some v => exact q8S v n 0
 ·cases hi with
  | none => rfl
  | some v => exact q8S v n n
theorem q7E (i j : Nat) : Builtin.Slice.slicePlaces (i : Int) (j : Int) 1 = j - i := by
 unfold Builtin.Slice.slicePlaces
 have h1 : (1 : Int) > 0 := by omega
 simp only [h1, if_true, Int.ediv_one]
 split <;> omega
theorem q4E {v : Value} {o : Option Int} {Q : Option Int -> Shared -> Prop} (p : IsPart v o) (h : Q o s) : wpAny (model prog w) A (Builtin.Slice.slicePartIndex v) Q E s := by
 cases p with
 | none => exact slicePart_none h
 | int i t => exact slicePart_int h
theorem q3F {sl : Addr} {vl vu : Value} {lo hi : Option Int} {n : Nat} {Q : Int × Int × Nat -> Shared -> Prop} (hs : s.heap.IsSliceOf sl vl vu .none) (pl : IsPart vl lo) (pu : IsPart vu hi)
  (h : Q (((sIx n 0 lo : Nat) : Int), 1, sIx n n hi - sIx n 0 lo) s) : wpAny (model prog w) A (Builtin.Slice.sliceApplied (.ref sl) (pure (n : Int))) Q E s := by
 obtain ⟨os, hos, hcs, hds⟩ := id hs
 unfold Builtin.Slice.sliceApplied Builtin.Slice.sliceFields
 refine wpAny_bind (wpAny_bind (wpAny_field hos hds (x := vl) rfl (wpAny_bind (wpAny_field hos hds (x := vu) rfl (wpAny_bind (wpAny_field hos hds (x := .none) rfl (wpAny_pure ?_)))))))
 refine wpAny_bind (slicePart_none ?_)
 show wpAny _ _ (if ((1 : Int) == 0) = true then _ else _) _ _ s
 rw [if_neg (by decide)]
 refine wpAny_bind (q4E pl (wpAny_bind (q4E pu (wpAny_bind (wpAny_pure ?_)))))
 show wpAny _ _ (match Builtin.Slice.sliceAdjust lo hi 1 (n : Int) with | (lo, hi) => pure (lo, (1 : Int), Builtin.Slice.slicePlaces lo hi 1)) _ _ s
 rw [q7R lo hi n]
 show wpAny _ _ (pure (((sIx n 0 lo : Nat) : Int), (1 : Int), Builtin.Slice.slicePlaces ((sIx n 0 lo : Nat) : Int) ((sIx n n hi : Nat) : Int) 1)) _ _ s
 rw [q7E]
 exact wpAny_pure h
theorem z0q (xs : Array Value) (i k : Nat) : ((List.range k).filterMap λ (m : Nat) => xs[((i : Int) + (m : Int) * 1).toNat]?).toArray = ((xs.toList.drop i).take k).toArray := by
 have e : (λ (m : Nat) => xs[((i : Int) + (m : Int) * 1).toNat]?) = λ m => xs[i + m]? := by
  funext m
  have : ((i : Int) + (m : Int) * 1).toNat = i + m := by omega
  rw [this]
 rw [e]
 have := pick_run xs i k
 rw [List.filterMap_map] at this
 have e2 : ((λ x => xs[x]?) ∘ λ x => i + x) = λ m => xs[i + m]? := rfl
 rw [e2] at this
 rw [this]
theorem getItem_tuple_cut {t sl : Addr} {items : Array Value} {vl vu : Value} {lo hi : Option Int} {Q : Value -> Shared -> Prop} (ht : IsTup s.heap t items) (hs : s.heap.IsSliceOf sl vl vu .none) (pl : IsPart vl lo) (pu : IsPart vu hi)
  (hw : ¬ (sIx items.size 0 lo = 0 /\ sIx items.size items.size hi = items.size))
  (h : Q (.ref s.heap.objs.size) { s with heap := s.heap.push { cls := .type "tuple", data := .seq ((items.toList.drop (sIx items.size 0 lo)).take (sIx items.size items.size hi - sIx items.size 0 lo)).toArray } })
  (hsz : items.size <= sizeLine) : wpAny (model prog w) A (getItem (.ref t) (.ref sl)) Q E s := by
 have htake : sizeOk (.seq ((items.toList.drop (sIx items.size 0 lo)).take (sIx items.size items.size hi - sIx items.size 0 lo)).toArray) := by
  show ((items.toList.drop (sIx items.size 0 lo)).take (sIx items.size items.size hi - sIx items.size 0 lo)).toArray.size <= sizeLine
  rw [List.size_toArray, List.length_take, List.length_drop, Array.length_toList]
  omega
 have hj : sIx items.size items.size hi <= items.size := z5l _ _ (Nat.le_refl _) hi
 obtain ⟨os, hos, hcs, hds⟩ := id hs
 have hTs : s.TypeIs (.ref sl) "slice" := ⟨os, hos, hcs⟩
 unfold getItem
 try with_reducible refine wpAny_holding ?_
 first | refine wpAny_bind (wpAny_pure ?_) | skip
 refine wpAny_bind (wpAny_sequenceKey ht.typeIs (by decide) ?_)
 refine wpAny_bind (wpAny_callSpecial?_slot (name := Str.ofString "__getitem__") ht.typeIs PyProof.Rows.slot_tuple_getitem
  (wpAny_call_entry PyProof.Rows.slot_tuple_getitem ht.typeIs entry_tuple_getitem ?_ (args_tuple_getitem _ _)))
 show wpAny _ _ (Builtin.Tuple.tupleItemsOf (.ref t) >>= _) _ _ s
 refine wpAny_bind (tupleItemsOf_ ht ?_)
 refine wpAny_bind (wpAny_typeOf hTs ?_)
 rw [if_pos (by decide)]
 refine wpAny_bind (q3F hs pl pu ?_)
 have hno : ¬ ((((sIx items.size 0 lo : Nat) : Int) == 0 && (1 : Int) == 1 && (sIx items.size items.size hi - sIx items.size 0 lo) == items.size) = true) := by
  intro q
  rw [Bool.and_eq_true, Bool.and_eq_true] at q
  have q1 : ((sIx items.size 0 lo : Nat) : Int) = 0 := eq_of_beq q.1.1
  have q2 : sIx items.size items.size hi - sIx items.size 0 lo = items.size := eq_of_beq q.2
  exact hw ⟨by omega, by omega⟩
 show wpAny _ _ (if (((sIx items.size 0 lo : Nat) : Int) == 0 && (1 : Int) == 1 && (sIx items.size items.size hi - sIx items.size 0 lo) == items.size) = true then _ else _) _ _ s
 rw [if_neg hno, z0q]
 first
  | exact wpAny_bind (m := Builtin.Tuple.tupleExact _) (wpAny_newObj_type (wpAny_pure ⟨_, rfl, wpAny_pure h⟩) htake)
  | exact wpAny_bind (m := Builtin.Tuple.tupleExact _) (wpAny_newObj_type (wpAny_bind (wpAny_pure (wpAny_pure ⟨_, rfl, wpAny_pure h⟩))) htake)
  | exact wpAny_bind (wpAny_bind (m := Builtin.Tuple.tupleExact _) (wpAny_newObj_type (wpAny_pure (wpAny_pure ⟨_, rfl, wpAny_pure h⟩)) htake))
  | exact wpAny_bind (wpAny_bind (m := Builtin.Tuple.tupleExact _) (wpAny_newObj_type (wpAny_pure ⟨_, rfl, wpAny_pure h⟩) htake))
end
end HT
namespace L2
open PySem PySem.Spec PyProof.Rows
noncomputable abbrev TO := St -> Hp -> (Option Int -> Hp -> Prop) -> Prop
noncomputable def PO (X : Cx) (e : Option Expr) (t : TO) : Prop :=
 ∀ (pins : List (Addr × Obj)) (s : Shared) (σ : St) (H : Hp) (Q : Option Int -> Hp -> Prop), Inv X pins σ H s -> t σ H Q ->
  wpAny (model X.prog X.w) X.A (evalPart e X.env) (λ u s' => ∃ o H', Inv X pins σ H' s' /\ IsPart u o /\ Q o H') X.xe s
noncomputable def z2s : TO := λ _ H Q => Q none H
noncomputable def z6B (t : TE) : TO := λ σ H Q => t σ H λ x H1 => ∃ i, x = .int i /\ Q (some i) H1
section
variable {X : Cx} {e : Expr} {te : TE} {lo hi : Option Expr} {tl th : TO} {pos p2 : Pos}
theorem q3r : PO X none z2s := by
 intro pins s σ H Q I h
 rw [evalPart_none]
 exact wpAny_pure ⟨none, H, I, .none, h⟩
theorem z0a (h : PE X e te) : PO X (some e) (z6B te) := by
 intro pins s σ H Q I hw
 rw [evalPart_some]
 refine thn (h pins s σ H _ I hw) λ u s1 ⟨x, H1, I1, r1, q1⟩ => ?_
 obtain ⟨i, rfl, q⟩ := q1
 obtain ⟨t, rfl⟩ := r1
 exact ⟨some i, H1, I1, .int i t, q⟩
noncomputable def SlR (X : Cx) (r : V -> Option Int -> Option Int -> Hp -> VK -> Prop) : Prop :=
 ∀ (pins : List (Addr × Obj)) (s : Shared) (σ : St) (H : Hp) (x : V) (v vl vu : Value) (lo hi : Option Int) (sl : Addr) (Q : VK), Inv X pins σ H s -> RelV x v -> s.heap.IsSliceOf sl vl vu .none -> IsPart vl lo -> IsPart vu hi -> r x lo hi H Q ->
  ∃ T id, typeLookup (.type T) "__getitem__" = pure (some (.builtin id)) /\ s.TypeIs v T /\ wpAny (model X.prog X.w) X.A (getItem v (.ref sl)) (EP X pins σ Q) X.xe s
theorem SlR.or {r r' : V -> Option Int -> Option Int -> Hp -> VK -> Prop} (h : SlR X r) (h' : SlR X r') : SlR X (λ x lo hi H Q => r x lo hi H Q \/ r' x lo hi H Q) := by
 intro pins s σ H x v vl vu lo hi sl Q I rx hs pl pu q
 rcases q with q | q
 ·exact h pins s σ H x v vl vu lo hi sl Q I rx hs pl pu q
 ·exact h' pins s σ H x v vl vu lo hi sl Q I rx hs pl pu q
noncomputable def tSl (r : V -> Option Int -> Option Int -> Hp -> VK -> Prop) (te : TE) (tl th : TO) : TE := λ σ H Q => te σ H λ x H1 => tl σ H1 λ l H2 => th σ H2 λ u H3 => r x l u H3 Q
theorem q1u {r : V -> Option Int -> Option Int -> Hp -> VK -> Prop} (hr : SlR X r) (he : PE X e te) (hl : PO X lo tl) (hu : PO X hi th) : PE X (.Subscript e (.Slice lo hi none p2) pos) (tSl r te tl th) := by
 intro pins s σ H Q I h
 refine Subscript_ (thn (he pins s σ H _ I h) λ v s1 ⟨x, H1, I1, r1, q1⟩ => ?_)
 refine wpAny_Slice (thn (hl pins s1 σ H1 _ I1 q1) λ vl s2 ⟨l, H2, I2, pl, q2⟩ => thn (hu pins s2 σ H2 _ I2 q2) λ vu s3 ⟨u, H3, I3, pu, q3⟩ => ?_)
 rw [evalPart_none]
 refine wpAny_pure ?_
 have I4 : Inv X pins σ H3 { s3 with heap := s3.heap.push { cls := .type "slice", data := .fields #[vl, vu, .none] } } := I3.kept (t' := s3.toks) λ b ob q => Heap.get?_push_of_some _ q
 obtain ⟨T, id, hT, ht, hg⟩ := hr pins { s3 with heap := s3.heap.push { cls := .type "slice", data := .fields #[vl, vu, .none] } } σ H3 x v vl vu l u s3.heap.objs.size Q I4 r1 (Heap.IsSliceOf.new ..) pl pu q3
 show wpAny (model X.prog X.w) X.A (subscriptTail e (.Slice lo hi none p2) v (.ref s3.heap.objs.size)) (EP X pins σ Q) X.xe { s3 with heap := s3.heap.push { cls := .type "slice", data := .fields #[vl, vu, .none] } }
 exact tail_any (ops := [.ref s3.heap.objs.size, v]) ht hT hg (by with_unfolding_all rfl)
noncomputable def cutV (xs : List V) (lo hi : Option Int) : List V := (xs.drop (HT.sIx xs.length 0 lo)).take (HT.sIx xs.length xs.length hi - HT.sIx xs.length 0 lo)
theorem q4m (xs : List V) (lo hi : Option Int) : (cutV xs lo hi).length <= xs.length := by
 unfold cutV
 rw [List.length_take, List.length_drop]
 omega
noncomputable def rSlT (K : PySem.W.Frag) : V -> Option Int -> Option Int -> Hp -> VK -> Prop := λ x lo hi H Q => ∃ a xs, x = .ref a /\ SqT K H a xs /\
 ¬ (HT.sIx xs.length 0 lo = 0 /\ HT.sIx xs.length xs.length hi = xs.length) /\ ∀ p, H p = none -> Q (.ref p) (upd H p (.tup (cutV xs lo hi)))
theorem z4d : SlR X (rSlT X.K) := by
 intro pins s σ H x v vl vu lo hi sl Q I rx hs pl pu h
 obtain ⟨a, xs, rfl, hx, hw, q⟩ := h
 cases rx
 obtain ⟨its, r, ht, hz⟩ := I.tuple hx
 have hlen : its.toArray.size = xs.length := by rw [List.size_toArray]; exact r.length.symm
 refine ⟨"tuple", _, PyProof.Rows.slot_tuple_getitem.lookup, ht.typeIs, ?_⟩
 refine HT.getItem_tuple_cut ht hs pl pu (by rw [hlen]; exact hw) ?_ (by rw [hlen]; exact hz)
 rw [hlen]
 refine ⟨.ref s.heap.objs.size, _, I.laid (t' := s.toks) (o := .tup (cutV xs lo hi)) (λ b ob q => Heap.get?_push_of_some _ q) (Nat.le_refl _) ?_, rfl, q _ (I.hok.fresh (Nat.le_refl _))⟩
 exact ⟨Nat.le_trans (q4m xs lo hi) hz, _, (r.drop (HT.sIx xs.length 0 lo)).take (HT.sIx xs.length xs.length hi - HT.sIx xs.length 0 lo), q2L.new _ _⟩
noncomputable def z5D (K : PySem.W.Frag) : R2 := λ x y H Q => ∃ a b xs ys, x = .ref a /\ y = .ref b /\ SqT K H a xs /\ SqT K H b ys /\ xs ≠ [] /\ xs.length + ys.length <= sizeLine /\
 (ys = [] -> Q (.ref a) H) /\ (ys ≠ [] -> ∀ p, H p = none -> Q (.ref p) (upd H p (.tup (xs ++ ys))))
theorem Vals.nil_iff {xs : List V} {us : List Value} (r : Vals xs us) : us = [] ↔ xs = [] := by
 cases r with
 | nil => simp
 | cons _ _ => simp
theorem z2r : OpR X (binaryOp .Add) (z5D X.K) := by
 intro pins s σ H x y v u Q I rx ry h
 obtain ⟨a, b, xs, ys, rfl, rfl, ha, hb, hx, hz, q1, q2⟩ := h
 cases rx
 cases ry
 obtain ⟨its, r1, p1, _⟩ := I.tuple ha
 obtain ⟨its2, r2, p2, _⟩ := I.tuple hb
 refine HT.cat_tup p1 p2 (λ z => hx (r1.nil_iff.mp z)) (λ z => ⟨.ref a, H, I, rfl, q1 (r2.nil_iff.mp z)⟩) (λ z => ?_) (by rw [← r1.length, ← r2.length]; exact hz)
 refine ⟨.ref s.heap.objs.size, _, I.laid (t' := s.toks) (o := .tup (xs ++ ys)) (λ b ob q => Heap.get?_push_of_some _ q) (Nat.le_refl _) ?_, rfl, q2 (λ w => z (r2.nil_iff.mpr w)) _ (I.hok.fresh (Nat.le_refl _))⟩
 exact ⟨by rw [List.length_append]; exact hz, _, r1.append r2, q2L.new _ _⟩
end
end L2
namespace L2
open PySem PySem.Spec PyProof.Rows
noncomputable def ixN (n : Nat) (i : Int) : Option Nat := if 0 <= i then (if i < n then some i.toNat else none) else if -(n : Int) <= i then some (i + n).toNat else none
noncomputable def atI {α : Type} (xs : List α) (i : Int) : Option α := (ixN xs.length i).bind λ j => xs[j]?
theorem q9N {n : Nat} {i : Int} {j : Nat} (h : ixN n i = some j) : seqIndex? i n = some j /\ j < n /\ -(n : Int) <= i /\ i < n := by
 unfold ixN at h
 by_cases h0 : 0 <= i
 ·rw [if_pos h0] at h
  by_cases h1 : i < n
  ·rw [if_pos h1] at h
   have e : i.toNat = j := Option.some.inj h
   exact ⟨by rw [seqIndex_of h0 h1, e], by omega, by omega, h1⟩
  ·rw [if_neg h1] at h; cases h
 ·rw [if_neg h0] at h
  by_cases h1 : -(n : Int) <= i
  ·rw [if_pos h1] at h
   have e : (i + n).toNat = j := Option.some.inj h
   exact ⟨by rw [seqIndex_neg (by omega) h1, e], by omega, h1, by omega⟩
  ·rw [if_neg h1] at h; cases h
theorem q6N {α : Type} {xs : List α} {i : Int} {v : α} (h : atI xs i = some v) : ∃ j, seqIndex? i xs.length = some j /\ xs[j]? = some v /\ j < xs.length /\ -(xs.length : Int) <= i /\ i < xs.length := by
 unfold atI at h
 cases e : ixN xs.length i with
 | none => rw [e] at h; cases h
 | some j =>
  rw [e] at h
  obtain ⟨h1, h2, h3, h4⟩ := q9N e
  exact ⟨j, h1, h, h2, h3, h4⟩
noncomputable def z1Y (b : Expr) : Prop := ∀ o i, subscripted b false o i = operate [o, i] (getItem o i)
noncomputable def IxR (X : Cx) (r : R2) : Prop :=
 ∀ (value slice : Expr) (pins : List (Addr × Obj)) (s : Shared) (σ : St) (H : Hp) (x y : V) (v u : Value) (Q : VK), Inv X pins σ H s -> RelV x v -> RelV y u -> r x y H Q ->
  subscripted slice false v u = operate [v, u] (getItem v u) -> wpAny (model X.prog X.w) X.A (subscriptTail value slice v u) (EP X pins σ Q) X.xe s
noncomputable def MtR (X : Cx) (id : String) (r : V -> List V -> Hp -> VK -> Prop) : Prop :=
 ∀ (pins : List (Addr × Obj)) (s : Shared) (σ : St) (H : Hp) (x : V) (xs : List V) (v : Value) (us : List Value) (Q : VK), Inv X pins σ H s -> RelV x v -> Vals xs us -> r x xs H Q ->
  wpAny (model X.prog X.w) X.A (call (.builtin id) (v :: us)) (EP X pins σ Q) X.xe s
section
variable {X : Cx} {a b : Expr} {ta tb : TE} {pos : Pos}
theorem IxR.or {r r' : R2} (h : IxR X r) (h' : IxR X r') : IxR X (λ x y H Q => r x y H Q \/ r' x y H Q) := by
 intro value slice pins s σ H x y v u Q I rx ry q hs
 rcases q with q | q
 ·exact h value slice pins s σ H x y v u Q I rx ry q hs
 ·exact h' value slice pins s σ H x y v u Q I rx ry q hs
theorem z3U {r : R2} (hr : IxR X r) (ha : PE X a ta) (hb : PE X b tb) (hs : z1Y b) : PE X (.Subscript a b pos) (tOp r ta tb) := by
 intro pins s σ H Q I h
 exact Subscript_ (binT ha hb I h λ v u s2 x y H2 I2 rx ry q => hr a b pins s2 σ H2 x y v u Q I2 rx ry q (hs _ _))
noncomputable def rIxL (K : PySem.W.Frag) : R2 := λ x y H Q => ∃ p xs i v, x = .ref p /\ y = .int i /\ SqL K H p xs /\ atI xs i = some v /\ Q v H
noncomputable def rIxT (K : PySem.W.Frag) : R2 := λ x y H Q => ∃ p xs i v, x = .ref p /\ y = .int i /\ SqT K H p xs /\ atI xs i = some v /\ Q v H
noncomputable def rIxS : R2 := λ x y H Q => ∃ z i c, x = .str z /\ y = .int i /\ z.length <= sizeLine /\ atI z.cps.toList i = some c /\ Q (.str ⟨#[c]⟩) H
theorem z3J : IxR X (rIxL X.K) := by
 intro value slice pins s σ H x y v u Q I rx ry h hs
 obtain ⟨p, xs, i, z, rfl, rfl, hq, he, q⟩ := h
 cases rx
 obtain ⟨t, rfl⟩ := ry
 obtain ⟨its, r, pl, hz⟩ := I.list hq
 obtain ⟨j, h1, h2, h3, h4, h5⟩ := q6N he
 obtain ⟨w, ew, rw'⟩ := r.get h2
 have hl := r.length
 have hn := q3X
 have fin : EP X pins σ Q w s := ⟨z, H, I, rw', q⟩
 by_cases h0 : 0 <= i
 ·have hj : i.toNat = j := by
   rw [seqIndex_of h0 h5] at h1
   exact Option.some.inj h1
  exact item_listR pl.isList h0 (by omega) (by rw [hj]; simpa using ew) fin hs
 ·have hj : (i + (its.toArray.size : Int)).toNat = j := by
   rw [seqIndex_neg (by omega) h4] at h1
   rw [List.size_toArray, ← hl]
   exact Option.some.inj h1
  exact subscriptTail_builtinR (x := w) pl.isList.typeIs slot_list_getitem.lookup
   (wpAny_getItem_list_neg (Q := λ r s' => r = w /\ EP X pins σ Q r s') pl.isList (by omega) (by rw [List.size_toArray] <;> omega) (by omega) (by rw [hj]; simpa using ew) ⟨rfl, fin⟩) hs
theorem z5d : IxR X (rIxT X.K) := by
 intro value slice pins s σ H x y v u Q I rx ry h hs
 obtain ⟨p, xs, i, z, rfl, rfl, hq, he, q⟩ := h
 cases rx
 obtain ⟨t, rfl⟩ := ry
 obtain ⟨its, r, pl, hz⟩ := I.tuple hq
 obtain ⟨j, h1, h2, h3, h4, h5⟩ := q6N he
 obtain ⟨w, ew, rw'⟩ := r.get h2
 have hl := r.length
 have hn := q3X
 have fin : EP X pins σ Q w s := ⟨z, H, I, rw', q⟩
 exact subscriptTail_builtinR (x := w) pl.typeIs slot_tuple_getitem.lookup
  (getItem_tuple (j := j) (Q := λ r s' => r = w /\ EP X pins σ Q r s') pl (by omega) (by omega) (by rw [List.size_toArray, ← hl]; exact h1) (by simpa using ew) ⟨rfl, fin⟩) hs
theorem z4j : IxR X rIxS := by
 intro value slice pins s σ H x y v u Q I rx ry h hs
 obtain ⟨z, i, c, rfl, rfl, hz, he, q⟩ := h
 obtain ⟨t, rfl⟩ := rx
 obtain ⟨t', rfl⟩ := ry
 obtain ⟨j, h1, h2, h3, h4, h5⟩ := q6N he
 have hl : z.cps.toList.length = z.length := by simp [Str.length]
 rw [hl] at h1 h4 h5
 have hn := q3X
 exact tail_any (typeIs_str s z t) slot_str_getitem.lookup (getItem_str (c := c) (by
  have e1 : decide (i < -(2 ^ 63 : Int)) = false := decide_eq_false (by omega)
  have e2 : decide (i ≥ 2 ^ 63) = false := decide_eq_false (by omega)
  rw [e1, e2, Bool.or_false]) (by rw [h1]; simpa using h2) ⟨.str ⟨#[c]⟩, H, I.tok _, ⟨_, rfl⟩, q⟩) hs
noncomputable def rIx (K : PySem.W.Frag) : R2 := λ x y H Q => rIxL K x y H Q \/ rIxT K x y H Q \/ rIxS x y H Q
theorem z5a : IxR X (rIx X.K) := z3J.or (z5d.or z4j)
theorem q7C (its : List Value) (n j : Nat) (u : Value) : Obj.mapSeq (·.setIfInBounds j u) { cls := .type "list", data := .seq its.toArray n } = { cls := .type "list", data := .seq (its.set j u).toArray n } := by
 simp [Obj.mapSeq]
theorem Inv.lst {pins : List (Addr × Obj)} {σ : St} {H : Hp} {s : Shared} {p : Addr} {xs : List V} (I : Inv X pins σ H s) (h : H p = some (.lst xs)) :
  ∃ (its : List Value) (n : Nat), Vals xs its /\ s.heap.get? p = some { cls := .type "list", data := .seq its.toArray n } /\ xs.length <= sizeLine := by
 obtain ⟨z, its, n, r, e⟩ := I.hok p _ h
 exact ⟨its, n, r, e, z⟩
theorem Inv.lstUpd {pins : List (Addr × Obj)} {σ : St} {H : Hp} {s : Shared} {p : Addr} {xs ys : List V} {its its' : List Value} {n n' : Nat} {f : Obj -> Obj} (I : Inv X pins σ H s) (h : H p = some (.lst xs))
  (ho : s.heap.get? p = some { cls := .type "list", data := .seq its.toArray n }) (hf : f { cls := .type "list", data := .seq its.toArray n } = { cls := .type "list", data := .seq its'.toArray n' }) (r : Vals ys its') (hz : ys.length <= sizeLine) (t : Nat) :
  Inv X pins σ (upd H p (.lst ys)) { s with heap := s.heap.update p f, toks := t } := by
 have e : (s.heap.update p f).get? p = some { cls := .type "list", data := .seq its'.toArray n' } := by
  rw [Heap.get?_update_self f ho (by rw [hf] <;> rfl), hf]
 refine I.write (x := p) (e := p) (by rw [h]; trivial) (.inl rfl) (λ b u hb q => (Heap.get?_update_other _ _ (Ne.symm hb)).trans q) ⟨_, e⟩ ?_
 exact ⟨hz, its', n', r, e⟩
noncomputable def z6y : V -> V -> V -> Hp -> (Hp -> Prop) -> Prop := λ o i v H Q => ∃ p xs k j, o = .ref p /\ i = .int k /\ H p = some (.lst xs) /\ ixN xs.length k = some j /\ Q (upd H p (.lst (xs.set j v)))
theorem z1g : PSet X z6y := by
 intro pins s σ H o i v ov iv u Q I ro ri rv h
 obtain ⟨p, xs, k, j, rfl, rfl, hp, hj, q⟩ := h
 cases ro
 obtain ⟨t, rfl⟩ := ri
 obtain ⟨its, n, r, ho, hz⟩ := I.lst hp
 obtain ⟨h1, h2, h3, h4⟩ := q9N hj
 have hl := r.length
 have hn := q3X
 have I' : Inv X pins σ (upd H p (.lst (xs.set j v))) { s with heap := s.heap.update p (Obj.mapSeq (·.setIfInBounds j u)) } :=
  I.lstUpd hp ho (q7C its n j u) (r.set rv j) (by rw [List.length_set]; exact hz) s.toks
 by_cases h0 : 0 <= k
 ·have hk : k.toNat = j := by
   rw [seqIndex_of h0 h4] at h1
   exact Option.some.inj h1
  exact PySem.W.ki_setAt ho h0 (by omega) (by rw [List.size_toArray, ← hl]; exact h4) (by rw [hk]; exact ⟨_, I', q⟩)
 ·have hk : (k + (its.toArray.size : Int)).toNat = j := by
   rw [seqIndex_neg (by omega) h3] at h1
   rw [List.size_toArray, ← hl]
   exact Option.some.inj h1
  exact PySem.W.ki_setBack ho (by omega) (by rw [List.size_toArray, ← hl]; exact h3) (by omega) (by rw [hk]; exact ⟨_, I', q⟩)
theorem q5Z (lo hi : Option Int) (n : Nat) : (sliceBounds lo hi none n).1 = ((HT.sIx n 0 lo : Nat) : Int) /\ (sliceBounds lo hi none n).2.1 = ((HT.sIx n n hi : Nat) : Int) /\ (sliceBounds lo hi none n).2.2 = 1 := by
 refine ⟨?_, ?_, rfl⟩
 ·cases lo with
  | none => simp [sliceBounds, HT.sIx]
  | some i =>
   simp only [sliceBounds, HT.sIx, Option.getD_none, show (1 : Int) > 0 by decide, if_true]
   by_cases h : i < 0
   ·simp only [h, if_true] <;> omega
   ·simp only [h, if_false] <;> omega
 ·cases hi with
  | none => simp [sliceBounds, HT.sIx]
  | some i =>
   simp only [sliceBounds, HT.sIx, Option.getD_none, show (1 : Int) > 0 by decide, if_true]
   by_cases h : i < 0
   ·simp only [h, if_true] <;> omega
   ·simp only [h, if_false] <;> omega
theorem q5h (its : List Value) (lo hi : Option Int) : slicePick its.toArray lo hi none = ((its.drop (HT.sIx its.length 0 lo)).take (HT.sIx its.length its.length hi - HT.sIx its.length 0 lo)).toArray := by
 obtain ⟨h1, h2, h3⟩ := q5Z lo hi its.toArray.size
 unfold slicePick
 rw [h1, h2, h3]
 simp only [sliceRange_one, pick_run, List.size_toArray] <;> rfl
noncomputable def rSlL (K : PySem.W.Frag) : V -> Option Int -> Option Int -> Hp -> VK -> Prop := λ x lo hi H Q => ∃ a xs, x = .ref a /\ SqL K H a xs /\ ∀ p, H p = none -> Q (.ref p) (upd H p (.lst (cutV xs lo hi)))
theorem z2C : SlR X (rSlL X.K) := by
 intro pins s σ H x v vl vu lo hi sl Q I rx hs pl pu h
 obtain ⟨a, xs, rfl, hx, q⟩ := h
 cases rx
 obtain ⟨its, r, ht, hz⟩ := I.list hx
 have hlen := r.length
 refine ⟨"list", _, slot_list_getitem.lookup, ht.isList.typeIs, ?_⟩
 refine wpAny_getItem_list_slice ht.isList hs pl pu .none (by simp) ?_ (by rw [List.size_toArray] <;> omega)
 rw [q5h, ← hlen]
 refine ⟨.ref s.heap.objs.size, _, I.laid (t' := s.toks) (o := .lst (cutV xs lo hi)) (λ b ob q => Heap.get?_push_of_some _ q) (Nat.le_refl _) ?_, rfl, q _ (I.hok.fresh (Nat.le_refl _))⟩
 exact ⟨Nat.le_trans (q4m xs lo hi) hz, _, 0, (r.drop (HT.sIx xs.length 0 lo)).take (HT.sIx xs.length xs.length hi - HT.sIx xs.length 0 lo), Heap.get?_push_size _ rfl⟩
theorem q2s : q2h X (.builtin "len") (λ xs H Q => ∃ p ys, xs = [.ref p] /\ (SqL X.K H p ys \/ SqT X.K H p ys) /\ Q (.int ys.length) H) := by
 intro pins s σ H xs us Q I r h
 obtain ⟨p, ys, rfl, hq, q⟩ := h
 obtain ⟨u, rfl, rx⟩ := q5e r
 cases rx
 have hn := q3X
 rcases hq with hq | hq
 ·obtain ⟨its, r', pl, hz⟩ := I.list hq
  have hlen := r'.length
  exact Calls.call_len_list pl.isList (by simp only [List.size_toArray] <;> omega) ⟨.int ys.length, H, I.tok _, ⟨s.toks + 1, by rw [List.size_toArray, hlen]⟩, q⟩
 ·obtain ⟨its, r', pl, hz⟩ := I.tuple hq
  have hlen := r'.length
  exact len_tuple pl (by simp only [List.size_toArray] <;> omega) ⟨.int ys.length, H, I.tok _, ⟨s.toks + 1, by rw [List.size_toArray, hlen]⟩, q⟩
theorem q6j : q2h X (.builtin "len") (λ xs H Q => ∃ z, xs = [.str z] /\ z.length <= sizeLine /\ Q (.int z.length) H) := by
 intro pins s σ H xs us Q I r h
 obtain ⟨z, rfl, hz, q⟩ := h
 obtain ⟨u, rfl, t, rfl⟩ := q5e r
 have hn := q3X
 exact len_str (by omega) ⟨.int z.length, H, I.tok _, ⟨_, rfl⟩, q⟩
theorem q2w : q2h X (.type "list") (λ xs H Q => ∃ p ys, xs = [.ref p] /\ (SqL X.K H p ys \/ SqT X.K H p ys) /\ ∀ l, H l = none -> Q (.ref l) (upd H l (.lst ys))) := by
 intro pins s σ H xs us Q I r h
 obtain ⟨p, ys, rfl, hq, q⟩ := h
 obtain ⟨u, rfl, rx⟩ := q5e r
 cases rx
 have fin : ∀ (its : List Value), Vals ys its -> ys.length <= sizeLine -> ∀ (h' : Heap) (c' : Nat), (∀ b o', s.heap.get? b = some o' -> h'.get? b = some o') ->
   h'.get? s.heap.objs.size = some { cls := .type "list", dict := none, data := .seq its.toArray c', slots := #[] } -> EP X pins σ Q (.ref s.heap.objs.size) { s with heap := h' } := λ its r' hz h' c' kp e =>
  ⟨.ref s.heap.objs.size, _, I.laid (t' := s.toks) kp (Nat.le_refl _) (show q1V X.prog X.w _ h' _ (.lst ys) from ⟨hz, its, c', r', e⟩), rfl, q _ (I.hok.fresh (Nat.le_refl _))⟩
 rcases hq with hq | hq
 ·obtain ⟨its, r', pl, hz⟩ := I.list hq
  have hlen := r'.length
  obtain ⟨o, ho, hc, n, hd⟩ := pl.isList
  exact call_list_seq p (.inl rfl) ho hc hd (λ h' c' kp e => fin its r' hz h' c' kp e) (by simp only [List.size_toArray] <;> omega)
 ·obtain ⟨its, r', pl, hz⟩ := I.tuple hq
  have hlen := r'.length
  obtain ⟨o, ho, hc, n, hd⟩ := pl
  exact call_list_seq p (.inr rfl) ho hc hd (λ h' c' kp e => fin its r' hz h' c' kp e) (by simp only [List.size_toArray] <;> omega)
theorem q3g : q2h X (.type "tuple") (λ xs H Q => ∃ p ys, xs = [.ref p] /\ ((SqL X.K H p ys /\ ∀ l, H l = none -> Q (.ref l) (upd H l (.tup ys))) \/ (SqT X.K H p ys /\ Q (.ref p) H))) := by
 intro pins s σ H xs us Q I r h
 obtain ⟨p, ys, rfl, h⟩ := h
 obtain ⟨u, rfl, rx⟩ := q5e r
 cases rx
 rcases h with ⟨hq, q⟩ | ⟨hq, q⟩
 ·obtain ⟨its, r', pl, hz⟩ := I.list hq
  have hlen := r'.length
  refine call_tuple_list pl.isList (λ h' kp => ?_) (by simp only [List.size_toArray] <;> omega)
  have I1 : Inv X pins σ H { s with heap := h' } := I.kept (t' := s.toks) kp
  have I2 : Inv X pins σ (upd H h'.objs.size (.tup ys)) { s with heap := h'.push { cls := .type "tuple", data := .seq its.toArray } } :=
   I1.laid (t' := s.toks) (λ b o e => Heap.get?_push_of_some _ e) (Nat.le_refl _) (show q1V X.prog X.w _ _ _ (.tup ys) from ⟨hz, its, r', q2L.new _ _⟩)
  exact ⟨.ref h'.objs.size, _, I2, rfl, q _ (I1.hok.fresh (Nat.le_refl _))⟩
 ·obtain ⟨its, r', pl, hz⟩ := I.tuple hq
  exact call_tuple_same pl ⟨.ref p, H, I, rfl, q⟩
noncomputable def tyV (K : PySem.W.Frag) (T : String) (x : V) (H : Hp) : Prop := match x with
 | .str _ => T = "str"
 | .int _ => T = "int"
 | .ref p => (T = "list" /\ ∃ xs, SqL K H p xs) \/ (T = "tuple" /\ ∃ o, K.lookup p = some o /\ o.cls = .type "tuple" /\ o.dict = none) \/
   (T = "dict" /\ ((∃ kvs, H p = some (.dK kvs)) \/ ∃ kvs, H p = some (.dT kvs))) \/ (T = "set" /\ ∃ S n, H p = some (.set S n))
 | _ => False
theorem z1v {pins : List (Addr × Obj)} {σ : St} {H : Hp} {s : Shared} {T : String} {x : V} {v : Value} (I : Inv X pins σ H s) (r : RelV x v) (ty : tyV X.K T x H) :
  s.TypeIs v T /\ ∀ a, v = .ref a -> ∃ ob, s.heap.get? a = some ob /\ ob.dict = none := by
 cases x with
 | str z =>
  obtain ⟨t, rfl⟩ := r
  cases (show T = "str" from ty)
  exact ⟨typeIs_str s z t, λ _ e => nomatch e⟩
 | int i =>
  obtain ⟨t, rfl⟩ := r
  cases (show T = "int" from ty)
  exact ⟨typeIs_int s i t, λ _ e => nomatch e⟩
 | ref p =>
  cases r
  rcases ty with ⟨rfl, xs, hq⟩ | ⟨rfl, o, hk, hc, hd⟩ | ⟨rfl, hk⟩ | ⟨rfl, S, n, hk⟩
  ·obtain ⟨its, _, pl, _⟩ := I.list hq
   refine ⟨pl.isList.typeIs, λ a e => ?_⟩
   cases e
   obtain ⟨o, n, e, c, hd, _⟩ := pl
   exact ⟨o, e, hd⟩
  ·refine ⟨⟨o, I.kIn p o hk, hc⟩, λ a e => ?_⟩
   cases e
   exact ⟨o, I.kIn _ o hk, hd⟩
  ·have z : ∃ o, s.heap.get? p = some o /\ o.ExactDict := by
    rcases hk with ⟨kvs, hk⟩ | ⟨kvs, hk⟩
    ·obtain ⟨_, _, _, _, o, _, _, e, ex, _⟩ := I.hok p _ hk
     exact ⟨o, e, ex⟩
    ·obtain ⟨_, _, _, _, o, _, _, e, ex, _⟩ := I.hok p _ hk
     exact ⟨o, e, ex⟩
   obtain ⟨o, e, ex⟩ := z
   refine ⟨⟨o, e, ex.1⟩, λ a e2 => ?_⟩
   cases e2
   exact ⟨o, e, ex.2.1⟩
  ·obtain ⟨o, _, _, _, e, ex, _⟩ := I.hok p _ hk
   refine ⟨⟨o, e, ex.1⟩, λ a e2 => ?_⟩
   cases e2
   exact ⟨o, e, ex.2.1⟩
 | _ => exact False.elim ty
noncomputable def tBM0 (K : PySem.W.Frag) (T : String) (r : V -> List V -> Hp -> VK -> Prop) (to : TE) : TE := λ σ H Q => to σ H λ x H1 => tyV K T x H1 /\ r x [] H1 Q
noncomputable def tBM (K : PySem.W.Frag) (T : String) (r : V -> List V -> Hp -> VK -> Prop) (to : TE) (t : TA) : TE := λ σ H Q => to σ H λ x H1 => tyV K T x H1 /\ t σ H1 λ xs H2 => r x xs H2 Q
variable {o e : Expr} {es : List Expr} {to : TE} {t : TA} {name : Str} {apos cpos : Pos} {T id : String} {r : V -> List V -> Hp -> VK -> Prop}
theorem z5z (pa : PlainAttrs T) (slot : Slot T name id) (hty : typeOf (.builtin id) = pure (.type "method_descriptor")) (hm : MtR X id r) (ho : PE X o to)
  (hbase : attributeBase o name X.env (eval o X.env) = eval o X.env := by rfl) (hline : (apos.endLine == cpos.line) = true := by rfl) : PE X (.Call (.Attribute o name apos) [] [] cpos) (tBM0 X.K T r to) := by
 intro pins s σ H Q I h
 refine wpAny_Call_method0_late hbase hline (thn (ho pins s σ H _ I h) λ v s1 ⟨x, H1, I1, r1, ty, q1⟩ => ?_)
 obtain ⟨h1, h2⟩ := z1v I1 r1 ty
 exact ⟨T, id, pa, slot, hty, h1, h2, Calls.callWith_builtin rfl (PySem.evalArgs_none (hm pins s1 σ H1 x [] v [] Q I1 r1 .nil q1))⟩
theorem z6p (pa : PlainAttrs T) (slot : Slot T name id) (hty : typeOf (.builtin id) = pure (.type "method_descriptor")) (hm : MtR X id r) (ho : PE X o to) (ha : PA X (e :: es) t)
  (hbase : attributeBase o name X.env (eval o X.env) = eval o X.env := by rfl)
  (hfew : ((backTo cpos (starEach (e :: es) X.env)).all (λ x => !x.1) && (backToKw cpos (keywordEach [] X.env)).all (λ x => x.1.isSome)
   && decide ((e :: es).length + ([] : List Keyword).length + (if ([] : List Keyword).isEmpty then 0 else 1) < 30)) = true := by rfl)
  (hline : (apos.endLine == cpos.line) = true := by rfl) (hs : starEach (e :: es) X.env = (false, eval e X.env) :: starEach es X.env := by rfl) (hplain : (backTo cpos (starEach es X.env)).any (·.1) = false := by rfl) :
  PE X (.Call (.Attribute o name apos) (e :: es) [] cpos) (tBM X.K T r to t) := by
 intro pins s σ H Q I h
 refine wpAny_Call_method_late hbase hfew hline rfl (thn (ho pins s σ H _ I h) λ v s1 ⟨x, H1, I1, r1, ty, q1⟩ => ?_)
 obtain ⟨h1, h2⟩ := z1v I1 r1 ty
 refine ⟨T, id, pa, slot, hty, h1, h2, ?_⟩
 have hA := ha cpos pins s1 σ H1 _ I1 q1
 rw [hs] at hA ⊢
 refine Calls.callWith_builtin (by show (false || (backTo cpos (starEach es X.env)).any (·.1)) = false; rw [hplain] <;> rfl) (Calls.evalArgs_plain ?_)
 exact thn hA λ us s2 ⟨vs, H2, I2, r2, q2⟩ => hm pins s2 σ H2 x vs v us Q I2 r1 r2 q2
end
end L2
namespace L2
open PySem PySem.Spec PyProof.Rows
noncomputable def MtM (X : Cx) (id : String) (r : V -> List V -> Hp -> VK -> Prop) : Prop :=
 ∀ (pins : List (Addr × Obj)) (s : Shared) (σ : St) (H : Hp) (x : V) (xs : List V) (v : Value) (us : List Value) (Q : VK), Inv X pins σ H s -> RelV x v -> Vals xs us -> r x xs H Q ->
  wpAny (model X.prog X.w) X.A (call (.builtin id) (v :: us)) (EP X pins σ Q) X.xe s
theorem Vals.one : ∀ {x : V} {us : List Value}, Vals [x] us -> ∃ u, us = [u] /\ RelV x u
 | _, _, .cons r .nil => ⟨_, rfl, r⟩
theorem Vals.rep {xs : List V} {us : List Value} (h : Vals xs us) : ∀ k : Nat, Vals (List.replicate k xs).flatten (List.replicate k us).flatten
 | 0 => .nil
 | k + 1 => by
  rw [List.replicate_succ, List.replicate_succ, List.flatten_cons, List.flatten_cons]
  exact Vals.append h (Vals.rep h k)
theorem q5S (its : List Value) : ∀ (k : Nat) (acc : List Value),
  List.foldl (λ x1 x2 => x1 ++ x2) acc.toArray (List.replicate k its.toArray) = (acc ++ (List.replicate k its).flatten).toArray
 | 0, acc => by simp
 | k + 1, acc => by
  have e : acc.toArray ++ its.toArray = (acc ++ its).toArray := by simp
  have e2 : (acc ++ its) ++ (List.replicate k its).flatten = acc ++ (List.replicate (k + 1) its).flatten := by
   rw [List.replicate_succ, List.flatten_cons, List.append_assoc]
  rw [← e2, ← q5S its k (acc ++ its), ← e, List.replicate_succ, List.foldl_cons]
section
variable {X : Cx} {pins : List (Addr × Obj)} {σ : St} {H : Hp} {s : Shared} {l b : Addr} {xs ys zs : List V}
theorem Inv.lset {its its' : List Value} {n : Nat} {f : Array Value -> Array Value} {t' : Nat} (I : Inv X pins σ H s) (hH : H l = some (.lst xs))
  (e : s.heap.get? l = some { cls := .type "list", data := .seq its.toArray n }) (hf : f its.toArray = its'.toArray) (hv : Vals ys its') (hz : ys.length <= sizeLine) :
  Inv X pins σ (upd H l (.lst ys)) { s with heap := s.heap.update l (Obj.mapSeq f), toks := t' } := by
 have q := PySem.IsL.update e f
 rw [hf] at q
 refine I.write (x := l) (e := l) (by rw [hH]; exact trivial) (.inl rfl) (λ b' u hb hu => (Heap.get?_update_other s.heap (Obj.mapSeq f) (Ne.symm hb)).trans hu) ⟨_, q⟩ ?_
 exact ⟨hz, its', _, hv, q⟩
theorem Inv.lnew {its : List Value} {t' : Nat} (I : Inv X pins σ H s) (hv : Vals ys its) (hz : ys.length <= sizeLine) :
  Inv X pins σ (upd H s.heap.objs.size (.lst ys)) { s with heap := s.heap.push { cls := .type "list", data := .seq its.toArray }, toks := t' } :=
 I.laid (λ _ _ q => Heap.get?_push_of_some _ q) (Nat.le_refl _) ⟨hz, its, 0, hv, Heap.get?_push_size _ rfl⟩
theorem Inv.fresh (I : Inv X pins σ H s) : H s.heap.objs.size = none := I.hok.fresh (Nat.le_refl _)
theorem Inv.lstM (I : Inv X pins σ H s) (hH : H l = some (.lst xs)) : xs.length <= sizeLine /\ ∃ (its : List Value) (n : Nat), Vals xs its /\ xs.length = its.length /\ s.heap.get? l = some { cls := .type "list", data := .seq its.toArray n } := by
 obtain ⟨z, its, n, r, e⟩ := I.hok l _ hH
 exact ⟨z, its, n, r, r.length, e⟩
theorem z0U {n : Nat} (h : n <= sizeLine) : Builtin.List.listTooLong n = false := by
 unfold Builtin.List.listTooLong
 exact decide_eq_false (by omega)
end
section
variable {X : Cx}
noncomputable def z3x : V -> List V -> Hp -> VK -> Prop := λ x vs H Q => ∃ l xs y, x = .ref l /\ vs = [y] /\ H l = some (.lst xs) /\ xs.length < sizeLine /\ Q .non (upd H l (.lst (xs ++ [y])))
theorem q9K : MtM X "list.append" z3x := by
 intro pins s σ H x vs v us Q I rx rv h
 obtain ⟨l, xs, y, rfl, rfl, hH, hz, q⟩ := h
 cases rx
 obtain ⟨u, rfl, ru⟩ := rv.one
 obtain ⟨z, its, n, r, hl, e⟩ := I.lstM hH
 refine call_meets F.slot_list_append ⟨_, e, rfl⟩ F.entry_list_append (F.args_list_append_2 _ _) (PySem.list_append l its.toArray n u (by rw [List.size_toArray]; omega)) ⟨e, ?_⟩
 refine ⟨.non, _, I.lset (its' := its ++ [u]) hH e (by simp) (r.append (.cons ru .nil)) ?_, rfl, q⟩
 rw [List.length_append, List.length_singleton]
 omega
noncomputable def rCat : R2 := λ x y H Q => ∃ l b xs zs, x = .ref l /\ y = .ref b /\ H l = some (.lst xs) /\ H b = some (.lst zs) /\ xs.length + zs.length <= sizeLine /\ ∀ p, H p = none -> Q (.ref p) (upd H p (.lst (xs ++ zs)))
theorem z4s : OpR X (binaryOp .Add) rCat := by
 intro pins s σ H x y v u Q I rx ry h
 obtain ⟨l, b, xs, zs, rfl, rfl, hH, hB, hz, q⟩ := h
 cases rx
 cases ry
 obtain ⟨z, its, n, r, hl, e⟩ := I.lstM hH
 obtain ⟨z2, its2, n2, r2, hl2, e2⟩ := I.lstM hB
 refine PySem.P.add_list e e2 ?_ (by rw [List.size_toArray, List.size_toArray]; omega)
 have ea : its.toArray ++ its2.toArray = (its ++ its2).toArray := by simp
 rw [ea]
 exact ⟨.ref _, _, I.lnew (t' := s.toks) (r.append r2) (by rw [List.length_append]; omega), rfl, q _ I.fresh⟩
noncomputable def rRep : R2 := λ x y H Q => ∃ l k xs, x = .ref l /\ y = .int k /\ H l = some (.lst xs) /\ -(2 ^ 63) <= k /\ k < 2 ^ 63 /\ xs.length * k.toNat <= sizeLine /\
 ∀ p, H p = none -> Q (.ref p) (upd H p (.lst (List.replicate k.toNat xs).flatten))
theorem z3l {α : Type} (xs : List α) (k : Nat) : (List.replicate k xs).flatten.length = k * xs.length := by
 induction k with
 | zero => simp
 | succ k ih => rw [List.replicate_succ, List.flatten_cons, List.length_append, ih, Nat.succ_mul, Nat.add_comm]
theorem z5U : OpR X (binaryOp .Mult) rRep := by
 intro pins s σ H x y v u Q I rx ry h
 obtain ⟨l, k, xs, rfl, rfl, hH, h1, h2, hz, q⟩ := h
 cases rx
 obtain ⟨t, rfl⟩ := ry
 obtain ⟨z, its, n, r, hl, e⟩ := I.lstM hH
 have hlen : its.toArray.size * k.toNat <= sizeLine := by rw [List.size_toArray, ← hl]; exact hz
 have hcap : ¬ its.toArray.size * k.toNat > (2 ^ 63 - 1) / 8 := by
  have : (sizeLine : Nat) <= (2 ^ 63 - 1) / 8 := by decide
  omega
 have hfit : ¬ (!Builtin.List.listFitsIndex k) = true := by
  rw [fitsIndex_both h1 h2]
  exact Bool.false_ne_true
 have hlong : ¬ Builtin.List.listTooLong (its.toArray.size * k.toNat) = true := by
  rw [z0U hlen]
  exact Bool.false_ne_true
 have hnew : List.foldl (λ x1 x2 => x1 ++ x2) #[] (List.replicate (if its.toArray.isEmpty = true then 0 else k.toNat) its.toArray) = (List.replicate k.toNat its).flatten.toArray := by
  have f0 : ∀ m : Nat, List.foldl (λ x1 x2 => x1 ++ x2) #[] (List.replicate m its.toArray) = (List.replicate m its).flatten.toArray := λ m => by
   have := q5S its m []
   rw [List.nil_append] at this
   exact this
  rw [f0]
  cases its with
  | nil => simp
  | cons a r' => rw [if_neg (by simp)]
 refine wpAny_binaryOp_repeat_ref (T := "list") (U := "int") (by decide) ⟨_, e, rfl⟩ (λ s' => typeIs_int s' k t) noFill_list_mul F.fills_int_mul F.slot_int_rmul repeat_list F.slot_int_index.lookup
  (call_meets F.slot_int_rmul (typeIs_int s k t) F.entry_int_rmul (F.args_int_rmul_2 _ _) (int___rmul___int_list k t l its.toArray n)
   ⟨e, rfl, ⟨_, e, rfl⟩, call_meets F.slot_list_mul ⟨_, e, rfl⟩ F.entry_list_mul (F.args_list_mul_2 _ _) (AutoListH.list___mul___list_int_3 l its.toArray n k t hfit hcap hlong) ⟨e, ?_⟩⟩)
 rw [hnew]
 exact ⟨.ref _, _, I.lnew (t' := s.toks) (r.rep k.toNat) (by rw [z3l, Nat.mul_comm]; exact hz), rfl, q _ I.fresh⟩
end
section
variable {prog : Program} {w : World} {A : Around} {E : Value -> Shared -> Prop} {s : Shared}
end
section
variable {X : Cx}
end
end L2
namespace Att
open PySem PySem.W PySem.Calls PyProof.Rows
theorem q4q {P : Params} {h : Heap} : ∀ (ns : List Int) (vs : List Value), WellAll P h vs (ns.map WData.int) -> IntsAre vs ns := by
 intro ns
 induction ns with
 | nil =>
  intro vs w
  rw [List.map_nil] at w
  cases w
  exact .nil
 | cons n ns ih =>
  intro vs w
  rw [List.map_cons] at w
  cases w with
  | cons a b =>
   cases a
   exact .cons _ _ (ih _ b)
theorem q9I {l : OpenLaw} {n : Nat} (hn : l.most = some n) {P : Params} {h : Heap} {args : List WData} {vals : List Value}
  (hpre : l.row.toRowW.claim.pre args = true) (hwl : WellAll P h vals args) :
  ∃ a vs ns, vals = [Value.ref a] /\ args = [WData.list (ns.map WData.int)] /\ h.get? a = some { cls := .type "list", data := .seq vs.toArray } /\ IntsAre vs ns /\ ns.length <= n := by
 have hsh : WShape.hasAll [] args [.list .int] = true := (pre_splitW hpre).1
 have hc : l.pre.holds [] { args := args } = true := (pre_splitW hpre).2
 obtain ⟨d, r, rfl, h1, h2⟩ := hasAllW_cons hsh
 obtain rfl := hasAllW_nil h2
 obtain ⟨xs, rfl, h3⟩ := hasW_list h1
 obtain ⟨ns, rfl⟩ := items_int h3
 have hlen : ns.length <= n := by
  unfold OpenLaw.pre at hc
  have h4 : (WTm.not (.lt (.lit (.int (n : Int))) (.len (.arg 0)))).holds [] { args := [.list (ns.map .int)] } = true := by
   have h4 := (holds_andW hc).1
   rw [hn] at h4
   exact h4
  have h5 := condW_of h4 (w_not (w_lt w_lit (w_len_list (w_arg rfl))))
  rw [List.length_map] at h5
  refine Nat.le_of_not_lt λ q => ?_
  have q' : (n : Int) < ((ns.length : Nat) : Int) := by omega
  first
   | (rw [decide_eq_true q'] at h5; exact absurd h5 (by decide))
   | (simp at h5; omega)
 cases hwl with
 | cons w1 w2 =>
  cases w2
  cases w1 with
  | list ho hall => exact ⟨_, _, ns, rfl, rfl, ho, q4q ns _ hall, hlen⟩
theorem q9k (l : OpenLaw) (args : List WData) : l.row.toRowW.claim.post args (.bool true) args = true :=
 postW_of (r := l.row.toRowW) (X := (true == true))
  (show WShape.has [] (.bool true) .bool = true by first | rfl | decide | simp [WShape.has, WShape.arms, WShape.armsAll])
  (show (WTm.eq .res (.lit (.bool true))).value [] { args := args, res := some (.bool true), after := args } = some (.bool (true == true)) from w_eq_bool (w_res rfl) w_lit) rfl
theorem attach_call {l : OpenLaw} {n : Nat} {q : Program} {loose : List Str} {XP : (Str -> Option Value) -> Heap -> Prop} {YP : World -> Heap -> Prop} {d : DefRec}
  (hn : l.most = some n) (hdf : d.params.defaults = [])
  (call : ∀ (w : World) (s₀ s₁ : Shared) (mg mb : Str -> Option Value) (fa : Addr) (o : Obj) (pm cd doc : Value) (a : Addr) (vs : List Value) (ns : List Int),
   Ground q loose [] XP w s₀ mg mb s₁.heap -> YP w s₁.heap ->
   s₁.heap.get? fa = some o -> o.data = .func (docDef d.name d.params d.body d.scope pm cd doc) -> s₁.heap.CodeRec cd d.name -> mg d.name = some (.ref fa) ->
   s₁.heap.get? a = some { cls := .type "list", data := .seq vs.toArray } -> IntsAre vs ns -> ns.length <= n -> s₁.gens = #[] ->
   codeAny (model l.prog w) callerA (.call (.ref fa) ⟨[.ref a], []⟩) (λ r s' => r = .ok (.ret (.bool true)) /\ OldK s₁.heap s'.heap /\ s'.os = s₁.os /\ AllBare s'.gens) s₁) :
  WalkO q loose XP YP l.row.toRowW d [] (λ f vs => PySem.call f vs) := by
 intro w s₀ s₁ mg mb G Y fa o pm cd doc dV kV ho hd hcd hD hmg hg args vals as hpre hlay hrd hwl hlo
 obtain rfl : dV = .none := Dflts.none hD hdf
 obtain rfl : kV = .none := Dflts.noKw hD
 obtain ⟨a, vs, ns, rfl, rfl, hobj, hints, hlen⟩ := q9I hn hpre hwl
 refine enter_call (codeAny_mono (call w s₀ s₁ mg mb fa o pm cd doc a vs ns G Y ho (fd_plain hd) hcd hmg hobj hints hlen hg) λ r s' hq => ?_)
 obtain ⟨rfl, h2, h3, h4⟩ := hq
 exact ⟨.inl ⟨.bool true, .bool true, [], rfl, λ _ => rfl, .bool true, q9k l _, λ _ => ⟨List.Pairwise.nil, λ _ hm => (nomatch hm)⟩⟩, h2, h3, h4⟩
section
variable {prog : Program} {w : World} {A : Around} {E : Value -> Shared -> Prop} {s : Shared} {K : Frag}
noncomputable def z7m (h : Heap) (L d : Addr) : List (Addr × Obj) := (List.range h.objs.size).filterMap λ a => if a = L \/ a = d then none else (h.get? a).map λ o => (a, o)
end
end Att
namespace L2
open PySem PySem.Spec PyProof.Rows
theorem q5H : ∀ {vs : List Value} {ns : List Int}, IntsAre vs ns -> Vals (ns.map V.int) vs
 | _, _, .nil => .nil
 | _, _, .cons n t h => .cons ⟨t, rfl⟩ (q5H h)
noncomputable def Only (H : Hp) : Prop := ∀ b, H b = none \/ ∃ o xs, H b = some (.frz o (.lst xs))
theorem z0v {P : Program} {w : World} {K : PySem.W.Frag} {mg mb : Str -> Option Value} {CX : CXT} {k : Nat} {fa a : Addr} {fd : FuncData} {x : Str} {sp : Sp} {s₁ : Shared} {vs : List Value} {ns : List Int}
  (KX : K.In s₁.heap) (hns : s₁.heap.Ns mainGlobals mg) (hb : s₁.heap.Ns builtinsNs mb) (hbb : ∀ x : Str, x ≠ "__name__" -> mb x = bootBuiltins x) (hlim : s₁.heap.NoLimit) (hg : s₁.gens = #[])
  (ha : s₁.heap.get? a = some { cls := .type "list", data := .seq vs.toArray }) (hi : IntsAre vs ns) (hl : ns.length <= sizeLine) (hr : Room k callerA)
  (F : ∀ base : Heap, K.In base -> base.Ns mainGlobals mg -> FnOk P w K mg base CX k fa fd [x] sp) (hbind : ∀ (s : Shared) (u : Value), BindsTo s fd ⟨[u], []⟩ [(x, u)])
  (hsp : ∀ H : Hp, Only H -> SqL K H a (ns.map V.int) -> sp [.ref a] H (λ v _ => v = .bl true) λ _ _ _ => False)
  (hCX : ∀ H e s', CX [] H s₁ (λ _ _ _ => False) e s' -> False) :
  codeAny (model P w) callerA (.call (.ref fa) ⟨[.ref a], []⟩) (λ r s' => r = .ok (.ret (.bool true)) /\ OldK s₁.heap s'.heap /\ s'.os = s₁.os /\ AllBare s'.gens) s₁ := by
 have rv := q5H hi
 have lenV := hi.length
 have core : ∀ H : Hp, Only H -> SqL K H a (ns.map V.int) -> HOk P w H s₁.heap -> (∀ b, H b ≠ none -> b = a) -> (H a ≠ none -> K.lookup a = none) ->
   codeAny (model P w) callerA (.call (.ref fa) ⟨[.ref a], []⟩) (λ r s' => r = .ok (.ret (.bool true)) /\ OldK s₁.heap s'.heap /\ s'.os = s₁.os /\ AllBare s'.gens) s₁ := by
  intro H hO hS hok hA hK
  have base_of : ∀ {b : Addr} {o : Obj}, s₁.heap.get? b = some o -> H b = none -> (hidT s₁.heap H).get? b = some o := λ e n => z1p e n
  have noA : ∀ {b : Addr} {o : Obj} {es : Array DictEntry} {ep : Nat}, s₁.heap.get? b = some o -> o.data = .dict es ep -> H b = none := λ {b o es ep} e d => by
   cases q : H b with
   | none => rfl
   | some u =>
    have e' : b = a := hA b (by rw [q]; simp)
    subst e'
    rw [ha] at e; cases e
    have d' : Data.seq vs.toArray _ = Data.dict es ep := d
    cases d'
  have nsK : ∀ {b : Addr} {m : Str -> Option Value}, s₁.heap.Ns b m -> (hidT s₁.heap H).Ns b m := λ {b m} ⟨o, es, ep, e, d, r⟩ => ⟨o, es, ep, base_of e (noA e d), d, r⟩
  have hKb : K.In (hidT s₁.heap H) := λ b o e => base_of (KX b o e) (by
   cases q : H b with
   | none => rfl
   | some u =>
    have e' : b = a := hA b (by rw [q]; simp)
    subst e'
    rw [hK (by rw [q]; simp)] at e; cases e)
  have hM : Mod K mg (hidT s₁.heap H) := ⟨hKb, nsK hns, ⟨mb, nsK hb, hbb⟩, let ⟨mc, h1, h2⟩ := hlim; ⟨mc, nsK h1, h2⟩⟩
  have e0 : Env0 P w K mg (hidT s₁.heap H) callerA [] s₁ H := ⟨rfl, hM, λ b o e => z3i e, Nat.le_of_eq (q9W _ _), trivial, λ b hb => absurd (show b ∈ ([] : List Addr) from hb) (by simp), hok, .of_eq hg⟩
  refine codeAny_mono ((F _ hKb (nsK hns)).run callerA [] s₁ H ⟨[.ref a], []⟩ [.ref a] [.ref a] _ _ hr e0 (hbind s₁ (.ref a)) (.cons rfl .nil) (hsp H hO hS)) λ r s' h => ?_
  cases r with
  | error e => exact (hCX H e s' h).elim
  | ok fl =>
   cases fl with
   | next => exact False.elim h
   | brk => exact False.elim h
   | cont => exact False.elim h
   | ret u =>
    obtain ⟨v, H', os, bare, un, hok', r', q⟩ := h
    have q' : v = .bl true := q
    subst q'
    obtain rfl : u = Value.bool true := r'
    refine ⟨rfl, OldK.of_keep λ b o e => ?_, os, bare⟩
    cases q : H b with
    | none => exact un.keep b o e q (by intro z; exact absurd (show b ∈ ([] : List Addr) from z) (by simp)) (by simp)
    | some u =>
     rcases hO b with z | ⟨ob, xs, z⟩
     ·rw [q] at z; cases z
     ·have z2 := un.frzs b ob _ z
      obtain ⟨e1, _⟩ := hok b _ z
      obtain ⟨e2, _⟩ := hok' b _ z2
      rw [e] at e1; cases e1
      exact e2
 cases hk : K.lookup a with
 | some o =>
  have e := KX a o hk
  rw [ha] at e
  cases e
  refine core (λ _ => none) (λ _ => .inl rfl) (.inr ⟨_, vs.toArray, _, hk, rfl, rfl, rfl, by rw [List.size_toArray, lenV]; exact hl, by simpa using rv⟩) (λ b u z => by have z' : (none : Option HO) = some u := z; cases z') (λ b z => absurd rfl z) λ z => absurd rfl z
 | none =>
  refine core (λ b => if b = a then some (.frz { cls := .type "list", data := .seq vs.toArray } (.lst (ns.map V.int))) else none) (λ b => ?_) (.inl (.inr ⟨{ cls := .type "list", data := .seq vs.toArray }, if_pos rfl⟩)) (λ b u z => ?_) (λ b z => ?_) λ _ => hk
  ·by_cases hb : b = a
   ·exact .inr ⟨_, _, if_pos hb⟩
   ·exact .inl (if_neg hb)
  ·by_cases hb : b = a
   ·have z' := (if_pos hb).symm.trans z
    cases z'
    subst hb
    exact ⟨ha, by rw [List.length_map]; exact hl, vs, _, rv, ha⟩
   ·have z' := (if_neg hb).symm.trans z
    cases z'
  ·by_cases hb : b = a
   ·exact hb
   ·exact absurd (if_neg hb) z
end L2
namespace L2
open PySem PySem.Spec PyProof.Rows
noncomputable abbrev KOf {K : PySem.W.Frag} {h : Heap} (_ : K.In h) : PySem.W.Frag := K
theorem walk_of {l : PySem.W.OpenLaw} {n k : Nat} {q : Program} {loose : List Str} {XP : (Str -> Option Value) -> Heap -> Prop} {YP : World -> Heap -> Prop} {d : DefRec} {K : Params -> PySem.W.Frag} {CX : World -> CXT} {sp : World -> Sp} {x : Str}
  (hn : l.most = some n) (hn2 : n <= sizeLine) (hdf : d.params.defaults = []) (hr : Room k callerA)
  (hY : ∀ (w : World) (h : Heap), YP w h -> (K w.params).In h)
  (F : ∀ (w : World) (mg : Str -> Option Value) (fa : Addr) (h : Heap), (K w.params).In h -> h.Ns mainGlobals mg -> mg d.name = some (.ref fa) ->
   ∃ fd : FuncData, (∀ (s : Shared) (u : Value), BindsTo s fd ⟨[u], []⟩ [(x, u)]) /\
    ∀ base : Heap, (K w.params).In base -> base.Ns mainGlobals mg -> FnOk l.prog w (K w.params) mg base (CX w) k fa fd [x] (sp w))
  (hsp : ∀ (w : World) (H : Hp) (a : Addr) (ns : List Int), ns.length <= n -> Only H -> SqL (K w.params) H a (ns.map V.int) -> sp w [.ref a] H (λ v _ => v = .bl true) λ _ _ _ => False)
  (hCX : ∀ (w : World) (H : Hp) (s : Shared) (e : Value) (s' : Shared), CX w [] H s (λ _ _ _ => False) e s' -> False) :
  PySem.W.WalkO q loose XP YP l.row.toRowW d [] (λ f vs => PySem.call f vs) := by
 refine Att.attach_call hn hdf λ w s₀ s₁ mg mb fa o pm cd doc a vs ns G Y ho hd hcd hmg hobj hints hlen hg => ?_
 have KX := hY w _ Y
 obtain ⟨fd, hb, hF⟩ := F w mg fa _ KX G.T.g hmg
 exact z0v KX G.T.g G.T.b G.T.builtins G.T.nolimit hg hobj hints (Nat.le_trans hlen hn2) hr hF hb (λ H hO hS => hsp w H a ns hlen hO hS) λ H e s' => hCX w H s₁ e s'
end L2
namespace L2
open PySem PySem.Spec PyProof.Rows
noncomputable def q0n (s : Stmt) : Arguments := match s with
 | .FunctionDef _ a _ _ _ _ _ _ _ _ => a
 | _ => { posonlyargs := [], args := [], vararg := none, kwonlyargs := [], kw_defaults := [], kwarg := none, defaults := [] }
noncomputable def q0j (s : Stmt) : List Stmt := match s with
 | .FunctionDef _ _ b _ _ _ _ _ _ _ => b
 | _ => []
noncomputable def q0d (s : Stmt) : Scope := match s with
 | .FunctionDef _ _ _ _ _ _ sc _ _ _ => sc
 | _ => { kind := .function, names := [], isGenerator := false, isCoroutine := false }
noncomputable abbrev CX0 : CXT := λ _ _ _ _ _ _ => False
noncomputable abbrev E0 : XK := λ _ _ _ => False
structure Fun (K : PySem.W.Frag) (x qual : Str) (st : Stmt) (f : Addr) (fd : FuncData) : Prop where
 ex : ∃ (oc : Value) (od : Option Addr) (kV doc pm : Value) (an : Option Addr) (cdv ct : Value) (osl : Array (Option Value)),
  fd = PySem.W.fnOf x qual (q0n st) (q0j st) (q0d st) .none kV doc pm an cdv ct /\ K.lookup f = some ⟨oc, od, .func fd, osl⟩ /\ PySem.W.codeIn K cdv qual = true
 kp : PySem.W.keepIn K (.ref f) = true
section
variable {P : Program} {w : World} {K : PySem.W.Frag} {mg : Str -> Option Value} {base : Heap}
theorem Fun.binds {x qual : Str} {st : Stmt} {f : Addr} {fd : FuncData} {ps : List Str} (F : Fun K x qual st f fd)
  (h : ∀ (kV doc pm : Value) (an : Option Addr) (cdv ct : Value) (us : List Value), us.length = ps.length -> bindArgs (PySem.W.fnOf x qual (q0n st) (q0j st) (q0d st) .none kV doc pm an cdv ct) ⟨us, []⟩ = pure (ps.zip us)) : q6m K fd ps [] := by
 obtain ⟨oc, od, kV, doc, pm, an, cdv, ct, osl, rfl, lk, hcd⟩ := F.ex
 exact .all (h kV doc pm an cdv ct)
theorem z4m {x qual : Str} {st : Stmt} {f : Addr} {oc : Value} {od an : Option Addr} {osl : Array (Option Value)} {kV doc pm cdv ct : Value} (l : K.lookup f = some ⟨oc, od, .func (PySem.W.fnOf x qual (q0n st) (q0j st) (q0d st) .none kV doc pm an cdv ct), osl⟩)
  (c : PySem.W.codeIn K cdv qual = true) (k : PySem.W.keepIn K (.ref f) = true) : Fun K x qual st f (PySem.W.fnOf x qual (q0n st) (q0j st) (q0d st) .none kV doc pm an cdv ct) := ⟨⟨oc, od, kV, doc, pm, an, cdv, ct, osl, rfl, l, c⟩, k⟩
end
section
variable {X : Cx}
end
theorem iteF {A B : Prop} (h : B) : if false = true then A else B := by
 rw [if_neg Bool.false_ne_true]
 exact h
theorem iteT {A B : Prop} (h : A) : if true = true then A else B := by
 rw [if_pos rfl]
 exact h
noncomputable def Same (H H' : Hp) : Prop := ∀ b o, H b = some o -> H' b = some o
theorem Same.refl (H : Hp) : Same H H := λ _ _ h => h
theorem Same.trans {H H1 H2 : Hp} (a : Same H H1) (b : Same H1 H2) : Same H H2 := λ c o h => b c o (a c o h)
theorem Same.free {H H' : Hp} (e : Same H H') {l : Addr} (h : H' l = Option.none) : H l = Option.none := by
 cases q : H l with
 | none => rfl
 | some o =>
  rw [e l o q] at h
  cases h
theorem Same.seq {K : PySem.W.Frag} {H H' : Hp} {a : Addr} {xs : List V} (e : Same H H') (h : SqL K H a xs) : SqL K H' a xs := by
 rcases h with (h | ⟨o, h⟩) | h
 ·exact .inl (.inl (e _ _ h))
 ·exact .inl (.inr ⟨o, e _ _ h⟩)
 ·exact .inr h
end L2
end
section
namespace L2
open PySem PySem.Spec PyProof.Rows
noncomputable def q0k (cells : List (Str × Addr)) : List (Str × NameKind) -> List (Str × Addr) -> List (Str × Addr)
 | [], acc => acc
 | (n, k) :: r, acc => if (k == NameKind.free) = true then q0k cells r ((n, (cells.lookup n).getD 0) :: acc) else q0k cells r acc
theorem q1O {env : Env} : ∀ (names : List (Str × NameKind)) (acc : List (Str × Addr)), (∀ y ∈ names, y.2 = NameKind.free -> ∃ c, env.cells.lookup y.1 = some c) ->
  (forIn names acc (λ (x : Str × NameKind) (cs : List (Str × Addr)) => (match x with | (name, kind) => if (kind == NameKind.free) = true then (do let a ← cellOf env name; pure (ForInStep.yield ((name, a) :: cs))) else pure (ForInStep.yield cs) : Sem (ForInStep (List (Str × Addr))))) : Sem (List (Str × Addr))) = pure (q0k env.cells names acc)
 | [], acc, _ => rfl
 | (n, k) :: r, acc, h => by
  have hr : ∀ y ∈ r, y.2 = NameKind.free -> ∃ c, env.cells.lookup y.1 = some c := λ y hy => h y (List.mem_cons_of_mem _ hy)
  rw [List.forIn_cons]
  by_cases hk : (k == NameKind.free) = true
  ·obtain ⟨c, hc⟩ := h (n, k) List.mem_cons_self (beq_iff_eq.mp hk)
   have e1 : cellOf env n = pure c := by unfold cellOf; rw [hc]
   have e2 : q0k env.cells ((n, k) :: r) acc = q0k env.cells r ((n, c) :: acc) := by
    show (if (k == NameKind.free) = true then q0k env.cells r ((n, (env.cells.lookup n).getD 0) :: acc) else q0k env.cells r acc) = _
    rw [if_pos hk, hc]; rfl
   rw [e2, ← q1O r ((n, c) :: acc) hr]
   simp only [hk, if_true, e1]
   rfl
  ·have e2 : q0k env.cells ((n, k) :: r) acc = q0k env.cells r acc := by
    show (if (k == NameKind.free) = true then q0k env.cells r ((n, (env.cells.lookup n).getD 0) :: acc) else q0k env.cells r acc) = _
    rw [if_neg hk]
   rw [e2, ← q1O r acc hr]
   simp only [hk, if_false]
   rfl
theorem q2q {scope : Scope} {env : Env} (h : ∀ y ∈ scope.names, y.2 = NameKind.free -> ∃ c, env.cells.lookup y.1 = some c) : closureFor scope env = pure (q0k env.cells scope.names []) := by
 have q := q1O (env := env) scope.names [] h
 unfold closureFor
 first
  | exact (congrArg (λ t => (t >>= λ cs => pure cs)) q).trans rfl
  | (simp only [q]; rfl)
theorem q2i {cells : List (Str × Addr)} : ∀ {names : List (Str × NameKind)} {acc : List (Str × Addr)} {x : Str} {c : Addr}, (∀ y ∈ names, y.2 = NameKind.free -> ∃ c, cells.lookup y.1 = some c) ->
  (x, c) ∈ q0k cells names acc -> (x, c) ∈ acc \/ (cells.lookup x = some c /\ (x, NameKind.free) ∈ names)
 | [], acc, x, c, _, h => .inl h
 | (n, k) :: r, acc, x, c, hh, h => by
  have hr : ∀ y ∈ r, y.2 = NameKind.free -> ∃ c, cells.lookup y.1 = some c := λ y hy => hh y (List.mem_cons_of_mem _ hy)
  unfold q0k at h
  by_cases hk : (k == NameKind.free) = true
  ·rw [if_pos hk] at h
   obtain ⟨c', hc⟩ := hh (n, k) List.mem_cons_self (beq_iff_eq.mp hk)
   rcases q2i hr h with z | ⟨z1, z2⟩
   ·rcases List.mem_cons.mp z with z | z
    ·cases z
     exact .inr ⟨by rw [hc]; rfl, by rw [← beq_iff_eq.mp hk]; exact List.mem_cons_self⟩
    ·exact .inl z
   ·exact .inr ⟨z1, List.mem_cons_of_mem _ z2⟩
  ·rw [if_neg hk] at h
   rcases q2i hr h with z | ⟨z1, z2⟩
   ·exact .inl z
   ·exact .inr ⟨z1, List.mem_cons_of_mem _ z2⟩
theorem q1Z {cells : List (Str × Addr)} : ∀ {names : List (Str × NameKind)} {acc : List (Str × Addr)} {y : Str × Addr}, y ∈ acc -> y ∈ q0k cells names acc
 | [], _, _, h => h
 | (n, k) :: r, acc, y, h => by
  unfold q0k
  split
  ·exact q1Z (List.mem_cons_of_mem _ h)
  ·exact q1Z h
theorem q2b {cells : List (Str × Addr)} : ∀ {names : List (Str × NameKind)} {acc : List (Str × Addr)} {x : Str} {c : Addr}, (x, NameKind.free) ∈ names -> cells.lookup x = some c -> (x, c) ∈ q0k cells names acc
 | (n, k) :: r, acc, x, c, h, hc => by
  unfold q0k
  rcases List.mem_cons.mp h with z | z
  ·cases z
   rw [if_pos (show (NameKind.free == NameKind.free) = true from rfl), hc]
   exact q1Z List.mem_cons_self
  ·split
   ·exact q2b z hc
   ·exact q2b z hc
theorem q1h : ∀ (names : List (Str × NameKind)) (n : Nat) (acc : List (Str × Addr)), cellsFrom n names acc = cellsFrom n names [] ++ acc
 | [], _, _ => rfl
 | (x, k) :: r, n, acc => by
  unfold cellsFrom
  split
  ·rw [q1h r (n + 1) ((x, n) :: acc), q1h r (n + 1) [(x, n)], List.append_assoc]; rfl
  ·exact q1h r n acc
theorem q2k : ∀ {names : List (Str × NameKind)} {n : Nat} {x : Str} {c : Addr}, (x, c) ∈ cellsFrom n names [] -> (x, NameKind.cell) ∈ names
 | [], _, _, _, h => nomatch h
 | (y, k) :: r, n, x, c, h => by
  unfold cellsFrom at h
  by_cases hk : (k == NameKind.cell) = true
  ·rw [if_pos hk, q1h] at h
   rcases List.mem_append.mp h with z | z
   ·exact List.mem_cons_of_mem _ (q2k z)
   ·have z' : (x, c) = (y, n) := by simpa using z
    cases z'
    rw [beq_iff_eq.mp hk]; exact List.mem_cons_self
  ·rw [if_neg hk] at h
   exact List.mem_cons_of_mem _ (q2k h)
theorem q1T {α : Type} {x : Str} : ∀ {l r : List (Str × α)}, (l ++ r).lookup x = (l.lookup x).or (r.lookup x)
 | [], r => by simp
 | (y, v) :: l, r => by
  rw [List.cons_append, List.lookup_cons, List.lookup_cons]
  cases hb : x == y with
  | true => rfl
  | false => exact q1T
theorem q2Q {α : Type} {x : Str} : ∀ {l : List (Str × α)}, (∀ c, (x, c) ∉ l) -> l.lookup x = none
 | [], _ => rfl
 | (y, v) :: l, h => by
  rw [List.lookup_cons]
  cases hb : x == y with
  | true => exact absurd (by rw [beq_iff_eq.mp hb]; exact List.mem_cons_self) (h v)
  | false => exact q2Q λ c hc => h c (List.mem_cons_of_mem _ hc)
theorem q2O {α : Type} {x : Str} : ∀ {l : List (Str × α)} {c : α}, (x, c) ∈ l -> ∃ c', l.lookup x = some c'
 | (y, v) :: l, c, h => by
  rw [List.lookup_cons]
  cases hb : x == y with
  | true => exact ⟨v, rfl⟩
  | false =>
   rcases List.mem_cons.mp h with z | z
   ·cases z; rw [beq_self_eq_true] at hb; cases hb
   ·exact q2O z
theorem q0N {α : Type} {x : Str} : ∀ {l : List (Str × α)} {c : α}, (l.map (·.1)).Nodup -> (x, c) ∈ l -> l.lookup x = some c
 | (y, v) :: l, c, nd, h => by
  rw [List.lookup_cons]
  rw [List.map_cons] at nd
  have nd' := List.nodup_cons.mp nd
  rcases List.mem_cons.mp h with z | z
  ·cases z; rw [beq_self_eq_true]
  ·have : x ≠ y := λ e => nd'.1 (by rw [← e]; exact List.mem_map.mpr ⟨_, z, rfl⟩)
   rw [beq_eq_false_iff_ne.mpr this]
   exact q0N nd'.2 z
theorem q1N {scope : Scope} {env : Env} {x : Str} : (relabel scope env).names.lookup x = (scope.names.lookup x).map λ k => if (k == NameKind.free && env.scope.kind == .function && env.kindOf x == some .cell) = true then NameKind.cell else k := by
 unfold relabel
 show (scope.names.map _).lookup x = _
 generalize scope.names = l
 induction l with
 | nil => rfl
 | cons y r ih =>
  obtain ⟨n, k⟩ := y
  rw [List.map_cons]
  show List.lookup x ((if (k == NameKind.free && env.scope.kind == .function && env.kindOf n == some .cell) = true then (n, NameKind.cell) else (n, k)) :: _) = _
  have e : (if (k == NameKind.free && env.scope.kind == .function && env.kindOf n == some .cell) = true then (n, NameKind.cell) else (n, k)) = (n, if (k == NameKind.free && env.scope.kind == .function && env.kindOf n == some .cell) = true then NameKind.cell else k) := by split <;> rfl
  rw [e, List.lookup_cons, List.lookup_cons]
  cases hb : x == n with
  | true => rw [beq_iff_eq.mp hb]; rfl
  | false => exact ih
theorem q6x {M : Model} {A : Around} {E : Value -> Shared -> Prop} {s : Shared} {scope : Scope} {g : Addr} {cl : List (Str × Addr)} {q : Str} {env : Env} {Q : Env -> Shared -> Prop}
  (hQ : Q (newEnv scope s.heap.objs.size g (cellsFrom (s.heap.objs.size + 1) scope.names cl) q none .none (some env) builtinsNs) { s with heap := pushCells (s.heap.push { cls := .type "dict", data := .dict #[] }) scope.names }) :
  wpAny M A (newFunctionEnv scope g cl [] q none .none (some env)) Q E s := by
 simp only [newFunctionEnv, Option.isSome_some, if_true]
 refine wpAny_bind (wpAny_alloc ?_)
 refine wpAny_bind (wpAny_layCells _ (λ name kind cells => by cases hkc : kind == NameKind.cell <;> simp [hkc]) _ _ _ _ ?_)
 rw [show ({ s with heap := s.heap.push { cls := .type "dict", data := .dict #[] } } : Shared).heap.objs.size = s.heap.objs.size + 1 from Heap.size_push ..]
 exact wpAny_bind (wpAny_pure (wpAny_pure hQ))
theorem q5C {prog : Program} {w : World} {A : Around} {R : Result -> Shared -> Prop} {s : Shared} {elt target iter : Expr} {ifs : List Expr} {scope : Scope} {pos : Pos} {it acc : Value} {env : Env} (I : Nat -> Shared -> Prop)
  (turn : ∀ n s, I n s -> wpAny (model prog w) A (pyNext it) (λ r s₁ => match r with
   | none => R (.ok .next) s₁
   | some v => wpAny (model prog w) A (letOwnedTupleGo target it v) (λ _ s₁' => wpAny (model prog w) A (assign target env v) (λ _ s₂ =>
     wpAny (model prog w) A (forIn ifs true λ c r => if r = true then do let ok ← isTrue c env (eval c env); pure (ForInStep.yield ok) else pure (ForInStep.yield r)) (λ ok s₃ =>
      if ok = true then wpAny (model prog w) A (eval elt env) (λ x s₄ =>
       wpAny (model prog w) A (call (.builtin "list.append") [acc, x]) (λ _ s₅ => ∃ m, m < n /\ I m s₅) (notedBy (model prog w) A env λ e s' => R (.error e) s') s₄) (notedBy (model prog w) A env λ e s' => R (.error e) s') s₃
      else ∃ m, m < n /\ I m s₃) (notedBy (model prog w) A env λ e s' => R (.error e) s') s₂) (notedBy (model prog w) A env λ e s' => R (.error e) s') s₁') (notedBy (model prog w) A env λ e s' => R (.error e) s') s₁) (notedBy (model prog w) A env λ e s' => R (.error e) s') s)
  (n : Nat) (h : I n s) :
  codeAny (model prog w) A (.compLoop (.ListComp elt [⟨target, iter, ifs, 0⟩] scope pos) 0 it acc env) R s := by
 refine codeAny_loop rfl I (λ n s hI => ?_) n h
 show wpAny _ A ((compTurn (.ListComp elt [⟨target, iter, ifs, 0⟩] scope pos) 0 it acc env).onRaise (λ x => do noteFrame x env; theTreesLotGoes x)) _ _ s
 refine wpAny_noted ?_
 rw [compTurn_list]
 refine wpAny_bind (wpAny_standAt (wpAny_bind (wpAny_mono (turn n s hI) (λ r s₁ h₁ => ?_) λ _ _ h' => h')))
 cases r with
 | none => exact wpAny_pure h₁
 | some v =>
  refine wpAny_bind (wpAny_mono h₁ (λ _ s₁' h₁' => ?_) λ _ _ h' => h')
  refine wpAny_bind (wpAny_mono h₁' (λ _ s₂ h₂ => wpAny_bind (wpAny_mono h₂ (λ ok s₃ h₃ => ?_) λ _ _ h' => h')) λ _ _ h' => h')
  cases ok with
  | false => exact wpAny_pure ⟨rfl, h₃⟩
  | true =>
   exact wpAny_bind (wpAny_bind (wpAny_mono h₃ (λ x s₄ h₄ => wpAny_bind (wpAny_mono h₄ (λ _ s₅ h₅ => wpAny_pure (wpAny_pure ⟨rfl, h₅⟩)) λ _ _ h' => h')) λ _ _ h' => h'))
theorem HOk.track {P : Program} {w : World} {H : Hp} {h : Heap} {a : Addr} {o : HO} (x : HOk P w H h) (hn : H a = none) (new : q1V P w (upd H a o) h a o) : HOk P w (upd H a o) h := λ b u e => by
 by_cases hb : b = a
 ·subst hb; rw [q1d] at e; cases e; exact new
 ·rw [q0z hb] at e
  exact (x b u e).stay (λ c v _ q => q) (λ c q => by rw [q0z (q0t q hn)]; exact q) λ c xs q => by rw [q0z (q0t q hn)]; exact q
theorem Un.track {fs ex : List Addr} {H H' : Hp} {h h' : Heap} {a : Addr} {o : HO} (u : Un fs ex H H' h h') (hn : H' a = none) (hh : h.get? a = none) : Un fs ex H (upd H' a o) h h' where
 keep := u.keep
 slot := u.slot
 free := λ b ob q n hx => by
  have : b ≠ a := λ z => by rw [z, hh] at q; cases q
  rw [q0z this]; exact u.free b ob q n hx
 there := u.there
 tups := λ b xs q => by have z := u.tups b xs q; rw [q0z (q0t z hn)]; exact z
 frzs := λ b ob xs q => by have z := u.frzs b ob xs q; rw [q0z (q0t z hn)]; exact z
 tbls := λ b ps q => by
  obtain ⟨m, z⟩ := u.tbls b ps q
  exact ⟨m, by rw [q0z (q0t z hn)]; exact z⟩
structure CompScope (N N' : List Str) (sc osc : Scope) (fr : List (Option Nat)) : Prop where
 kind : sc.kind = .function
 nd : N'.Nodup
 snd : (sc.names.map (·.1)).Nodup
 len : fr.length = N'.length
 fre : ∀ (j i : Nat), fr[j]? = some (some i) -> ∃ x, N'[j]? = some x /\ N[i]? = some x /\ (x, NameKind.free) ∈ sc.names
 out : ∀ y ∈ sc.names, y.2 = NameKind.free -> osc.names.lookup y.1 = some .cell \/ osc.names.lookup y.1 = some .free
noncomputable def inner (fr : List (Option Nat)) (σ : St) : St := fr.map λ o => o.bind λ i => (σ[i]?).join
noncomputable def q0v (X : Cx) (scope : Scope) (N' : List Str) (C : Addr) (cells : List (Str × Addr)) (s₂ : Shared) (H₂ : Hp) (fp : List Addr) : Cx :=
 { X with N := N', s₀ := s₂, H₀ := H₂, env := compEnvC scope cells C X.env, outer := X.stack, stack := X.stack, ex := fp, fn := λ x => scope.names.lookup x == some .cell, pn := [], xe := λ _ _ => False }
section
variable {X : Cx} {pins : List (Addr × Obj)} {σ : St} {H : Hp} {s₂ : Shared} {N' : List Str} {scope : Scope} {fr : List (Option Nat)} {fp : List Addr}
noncomputable abbrev q1R : Obj := { cls := .type "list", dict := none, data := .seq ([] : List Value).toArray }
noncomputable abbrev q6a : Obj := { cls := .type "dict", data := .dict #[] }
theorem z0X (S : CompScope X.N N' scope X.env.scope fr) (I : Inv X pins σ H s₂) (f : ∀ b ∈ fp, FpOk X pins H b) (ho : ∀ b ∈ fp, @LT.lt Nat _ b s₂.heap.objs.size) {C : Nat} (hC : C = s₂.heap.objs.size + 1) {h4 : Heap} (h4e : h4 = pushCells ((s₂.heap.push q1R).push q6a) scope.names) :
  Inv (q0v X scope N' C (cellsFrom (C + 1) scope.names (q0k X.env.cells scope.names [])) s₂ H fp) [] (inner fr σ) H { s₂ with heap := h4 } /\ h4.get? s₂.heap.objs.size = some q1R /\ (∀ b o, s₂.heap.get? b = some o -> h4.get? b = some o) := by
 have hsz1 : (s₂.heap.push q1R).objs.size = s₂.heap.objs.size + 1 := Heap.size_push ..
 have hsz2 : ((s₂.heap.push q1R).push q6a).objs.size = C + 1 := by rw [Heap.size_push, hsz1, hC]
 have keep : ∀ b o, s₂.heap.get? b = some o -> h4.get? b = some o := λ b o e => by rw [h4e]; exact pushCells_keeps _ _ b o (Heap.get?_push_of_some _ (Heap.get?_push_of_some _ e))
 have hD : h4.get? s₂.heap.objs.size = some q1R := by rw [h4e]; exact pushCells_keeps _ _ _ _ (Heap.get?_push_of_some _ (Heap.get?_push_size _ rfl))
 have hns : h4.Ns C λ _ => none := by
  have q := (Heap.Ns.new (s₂.heap.push q1R) (.type "dict")).keeps (pushCells_keeps scope.names _)
  rw [hsz1, ← hC] at q
  rw [h4e]; exact q
 have ok := cellsFrom_ok scope.names ((s₂.heap.push q1R).push q6a) (C + 1) [] ⟨λ _ _ hm => (nomatch hm), List.Pairwise.nil⟩ (by rw [hsz2]; exact Nat.le_refl _)
 rw [hsz2, ← h4e] at ok
 have hfree : ∀ y ∈ scope.names, y.2 = NameKind.free -> ∃ c, X.env.cells.lookup y.1 = some c := λ y hy hk => I.ok.has y.1 (S.out y hy hk)
 generalize hcl : q0k X.env.cells scope.names [] = cl
 have memcl : ∀ {x : Str} {c : Addr}, (x, c) ∈ cl -> X.env.cells.lookup x = some c /\ (x, NameKind.free) ∈ scope.names := λ {x c} hm => by
  rw [← hcl] at hm
  rcases q2i hfree hm with z | z
  ·exact nomatch z
  ·exact z
 generalize hown : cellsFrom (C + 1) scope.names [] = own at ok
 have app : cellsFrom (C + 1) scope.names cl = own ++ cl := by rw [q1h, hown]
 rw [app]
 have memown : ∀ {x : Str} {c : Addr}, (x, c) ∈ own -> (x, NameKind.cell) ∈ scope.names := λ {x c} hm => by rw [← hown] at hm; exact q2k hm
 have L1 : ∀ x c, (own ++ cl).lookup x = some c -> ((x, c) ∈ own) \/ (X.env.cells.lookup x = some c /\ (x, NameKind.free) ∈ scope.names /\ own.lookup x = none) := λ x c e => by
  rw [q1T] at e
  cases q : own.lookup x with
  | some c' => rw [q] at e; cases e; exact .inl (PySem.mem_of_lookup q)
  | none => rw [q] at e; have z := memcl (PySem.mem_of_lookup (show cl.lookup x = some c from e)); exact .inr ⟨z.1, z.2, rfl⟩
 have own_ge : ∀ {x : Str} {c : Nat}, (x, c) ∈ own -> @LE.le Nat _ (C + 1) c := λ {x c} hm => (ok.empty x c hm).2
 have cell_lt : ∀ {x : Str} {c : Nat}, X.env.cells.lookup x = some c -> @LT.lt Nat _ c s₂.heap.objs.size := λ {x c} e => by
  obtain ⟨v, z⟩ := I.cell x c e
  exact z.lt
 have free_no : ∀ {x : Str}, (x, NameKind.free) ∈ scope.names -> own.lookup x = none := λ {x} hm => by
  refine q2Q λ c hc => ?_
  have a := q0N S.snd hm
  have b := q0N S.snd (memown hc)
  rw [a] at b; cases b
 have cl_get : ∀ {x : Str} {c : Addr}, (x, NameKind.free) ∈ scope.names -> X.env.cells.lookup x = some c -> (own ++ cl).lookup x = some c := λ {x c} hm hc => by
  rw [q1T, free_no hm]
  obtain ⟨c', e⟩ := q2O (l := cl) (by rw [← hcl]; exact q2b hm hc)
  have z := (memcl (PySem.mem_of_lookup e)).1
  rw [hc] at z; cases z
  exact e
 have hX : (q0v X scope N' C (own ++ cl) s₂ H fp).Ok := by
  refine ⟨I.ok.mod, S.kind, I.ok.glob, I.ok.blt, ?_, λ x y c h1 h2 => ?_, λ x hx => ?_, λ x c hf hc => ?_, I.ok.hd, I.ok.frames, .inl rfl, λ b hb => ⟨?_, λ x c e => ?_⟩, I.bs, Nat.le_trans I.ok.bsz I.sz, λ b o e hb => ?_, λ b hb hs => ?_, I.stack, I.stkFree⟩
  ·show s₂.heap.objs.size <= C
   rw [hC]; exact Nat.le_succ _
  ·have h1 : (own ++ cl).lookup x = some c := h1
   have h2 : (own ++ cl).lookup y = some c := h2
   rcases L1 x c h1 with a | ⟨a, _⟩ <;> rcases L1 y c h2 with b | ⟨b, _⟩
   ·exact name_of_addr ok.apart a b
   ·exfalso; have q1 := own_ge a; have q2 := cell_lt b; omega
   ·exfalso; have q1 := own_ge b; have q2 := cell_lt a; omega
   ·exact I.ok.inj x y c a b
  ·have hx' : (relabel scope X.env).names.lookup x = some .cell \/ (relabel scope X.env).names.lookup x = some .free := hx
   show ∃ c, (own ++ cl).lookup x = some c
   rw [q1N] at hx'
   cases q : scope.names.lookup x with
   | none => rw [q] at hx'; rcases hx' with z | z <;> cases z
   | some k =>
    have km := PySem.mem_of_lookup q
    by_cases k1 : k = .cell
    ·subst k1
     have z := PySem.W.cellsFrom_some scope.names (C + 1) [] (.inl q)
     rw [hown] at z
     obtain ⟨c, z⟩ := Option.isSome_iff_exists.mp z
     exact ⟨c, by rw [q1T, z]; rfl⟩
    ·by_cases k2 : k = .free
     ·subst k2
      obtain ⟨c, e⟩ := hfree _ km rfl
      exact ⟨c, cl_get km e⟩
     ·exfalso
      rw [q] at hx'
      have e0 : (k == NameKind.free) = false := beq_eq_false_iff_ne.mpr k2
      simp only [Option.map_some, e0, Bool.false_and] at hx'
      rcases hx' with z | z
      ·exact k1 (by simpa using z)
      ·exact k2 (by simpa using z)
  ·have hf' : (scope.names.lookup x == some .cell) = true := hf
   have q : scope.names.lookup x = some .cell := by simpa using hf'
   have z := PySem.W.cellsFrom_some scope.names (C + 1) [] (.inl q)
   rw [hown] at z
   obtain ⟨c', z⟩ := Option.isSome_iff_exists.mp z
   have hc' : (own ++ cl).lookup x = some c := hc
   rw [q1T, z] at hc'
   have e : c' = c := Option.some.inj hc'
   subst e
   have := own_ge (PySem.mem_of_lookup z)
   show @LE.le Nat _ s₂.heap.objs.size c'
   omega
  ·have := ho b hb
   show @Ne Nat b C
   omega
  ·rcases L1 x c e with a | ⟨a, _⟩
   ·have := own_ge a; have := ho b hb; show @Ne Nat c b; omega
   ·exact (f b hb).2.2.2.2.1 x c a
  ·rcases (f b hb).2.2.2.1 with z | z
   ·exact I.ok.noex b o e z
   ·exact absurd (Nat.lt_of_lt_of_le (Heap.lt_size e) (Nat.le_trans I.ok.bsz z)) (Nat.lt_irrefl _)
  ·rcases List.mem_cons.mp (I.stkSub b hs) with z | z
   ·exact (f b hb).2.1 z
   ·exact (f b hb).2.2.1 z
 refine ⟨⟨hX, rfl, I.bare, Un.kept keep, ⟨_, hns, λ i x v e1 e2 e3 => ?_⟩, λ x c e => ?_, I.hok.fresh (by show @LE.le Nat _ s₂.heap.objs.size C; omega), λ x c e => ?_, λ p hp => absurd (show p ∈ ([] : List (Addr × Obj)) from hp) (by simp), I.hok.kept keep, ?_⟩, hD, keep⟩
 ·have e1 : N'[i]? = some x := e1
  unfold inner at e2
  rw [List.getElem?_map] at e2
  cases q : fr[i]? with
  | none => rw [q] at e2; cases e2
  | some o =>
   rw [q] at e2
   cases o with
   | none => cases e2
   | some j =>
    have e2' : (σ[j]?).join = some v := Option.some.inj e2
    have hv : σ[j]? = some (some v) := by
     cases z : σ[j]? with
     | none => rw [z] at e2'; cases e2'
     | some o => rw [z] at e2'; rw [show o = some v from e2']
    obtain ⟨x', a1, a2, a3⟩ := S.fre i j q
    rw [e1] at a1; cases a1
    obtain ⟨m, hn, hl⟩ := I.loc
    have ko := S.out _ a3 rfl
    obtain ⟨u, r, l⟩ := hl j x v a2 hv (ko.elim (λ z => .inr (.inl z)) λ z => .inr (.inr z))
    rcases l with ⟨k, _⟩ | ⟨k, c, e, z⟩
    ·have k' : X.env.scope.names.lookup x = some .local := k
     rcases ko with w | w <;> (rw [show X.env.scope.names.lookup x = _ from w] at k'; cases k')
    ·refine ⟨u, r, .inr ⟨?_, c, cl_get a3 e, z.keeps keep⟩⟩
     show (relabel scope X.env).names.lookup x = some .cell \/ (relabel scope X.env).names.lookup x = some .free
     rw [q1N, q0N S.snd a3]
     simp only [Option.map_some]
     split
     ·exact .inl rfl
     ·exact .inr rfl
 ·rcases L1 x c e with a | ⟨a, _⟩
  ·exact ⟨none, (ok.empty x c a).1⟩
  ·obtain ⟨v, z⟩ := I.cell x c a
   exact ⟨v, z.keeps keep⟩
 ·rcases L1 x c e with a | ⟨a, _⟩
  ·exact I.hok.fresh (by have := own_ge a; show @LE.le Nat _ s₂.heap.objs.size c; omega)
  ·exact I.freeC x c a
 ·show (inner fr σ).length = N'.length
  unfold inner
  rw [List.length_map, S.len]
end
noncomputable def PTs (X : Cx) (ifs : List Expr) (t : TT) : Prop :=
 ∀ (pins : List (Addr × Obj)) (s : Shared) (σ : St) (H : Hp) (Q : Bool -> Hp -> Prop), Inv X pins σ H s -> t σ H Q ->
  wpAny (model X.prog X.w) X.A (forIn ifs true λ c r => if r = true then do let ok ← isTrue c X.env (eval c X.env); pure (ForInStep.yield ok) else pure (ForInStep.yield r)) (TP X pins σ Q) X.xe s
noncomputable def tYes : TT := λ _ H Q => Q true H
theorem z3a {X : Cx} : PTs X [] tYes := λ _ _ _ H _ I h => wpAny_tests_nil ⟨H, I, h⟩
theorem z2b {X : Cx} {c : Expr} {t : TT} (h : PT X c t) : PTs X [c] t := λ pins s σ H Q I hq => wpAny_tests_one (h pins s σ H Q I hq)
noncomputable def z3D (J : It) (g : TG) (tc : TT) (te : TE) (Fin : List V -> Hp -> Prop) (σ : St) (H : Hp) : Prop :=
 ∃ W : Nat -> Nat -> List V -> St -> Hp -> Prop, (∃ m, W 0 m [] σ H) /\ ∀ i m ys σ H, W i m ys σ H ->
  (J.stop i H /\ Fin ys H) \/ (J.go i H /\ ys.length < sizeLine /\ ∀ x H', J.yld i H x H' -> g x σ H' λ σ2 H2 => tc σ2 H2 λ b H3 =>
   if b = true then te σ2 H3 λ y H4 => ∃ m', m' < m /\ W (i + 1) m' (ys ++ [y]) σ2 H4 else ∃ m', m' < m /\ W (i + 1) m' ys σ2 H3)
theorem Vals.snoc {xs : List V} {us : List Value} {x : V} {u : Value} (r : Vals xs us) (q : RelV x u) : Vals (xs ++ [x]) (us ++ [u]) := r.append (.cons q .nil)
theorem q7j {X : Cx} {pins : List (Addr × Obj)} {σ : St} {H : Hp} {s₂ : Shared} {N' : List Str} {scope : Scope} {fr : List (Option Nat)} {fp : List Addr} {iter elt tg : Expr} {ifs : List Expr} {pos : Pos} {g : TG} {te : TE} {tc : TT} {it : Addr} {tn : Nat -> Heap -> Prop} {J : It}
  {E : Value -> Shared -> Prop} {Fin : List V -> Hp -> Prop} {RR : Value -> Addr -> Result -> Shared -> Prop}
  (S : CompScope X.N N' scope X.env.scope fr) (hc : X.calm = true)
  (hg : ∀ C cells s₂ H₂ fp, PG (q0v X scope N' C cells s₂ H₂ fp) tg g) (ht : ∀ C cells s₂ H₂ fp, PTs (q0v X scope N' C cells s₂ H₂ fp) ifs tc) (he : ∀ C cells s₂ H₂ fp, PE (q0v X scope N' C cells s₂ H₂ fp) elt te)
  (I : Inv X pins σ H s₂) (T : Turn X.prog X.w X.K tg J fp it tn) (st : tn 0 s₂.heap) (f : ∀ b ∈ fp, FpOk X pins H b) (h : z3D J g tc te Fin (inner fr σ) H)
  (hRR : ∀ D C H' s' m ys, Inv X pins σ (upd H' D (.lst ys)) s' -> H' D = none -> s'.heap.Ns C m -> upd H' D (.lst ys) C = none -> C ≠ X.env.locals -> X.s₀.heap.objs.size <= C -> (∀ x c, X.env.cells.lookup x = some c -> c ≠ C) -> (∀ p ∈ X.pn ++ pins, p.1 ≠ C) -> Fin ys H' -> RR (.ref D) C (.ok .next) s') :
  wpAny (model X.prog X.w) X.A (newList []) (λ acc s₃ => wpAny (model X.prog X.w) X.A (newFunctionEnv scope X.env.globals (q0k X.env.cells scope.names []) [] X.env.qual none .none (some X.env)) (λ cenv s₄ =>
   codeAny (model X.prog X.w) X.A (.compStart (.ListComp elt [⟨tg, iter, ifs, 0⟩] scope pos) 0 (.ref it) acc { cenv with scope := relabel scope X.env }) (RR acc cenv.locals) s₄) E s₃) E s₂ := by
 have ho : ∀ b ∈ fp, b < s₂.heap.objs.size := λ b hb => by
  obtain ⟨o, e, _⟩ := T.obj _ _ st b hb
  exact Heap.lt_size e
 refine wpAny_newObj_type (q6x ?_)
 have hsz1 : (s₂.heap.push q1R).objs.size = s₂.heap.objs.size + 1 := Heap.size_push ..
 obtain ⟨I4, hD4, keep⟩ := z0X (C := s₂.heap.objs.size + 1) S I f ho rfl rfl
 show codeAny _ _ (.compStart _ 0 (.ref it) (.ref s₂.heap.objs.size) (compEnvC scope (cellsFrom ((s₂.heap.push q1R).objs.size + 1) scope.names (q0k X.env.cells scope.names [])) (s₂.heap.push q1R).objs.size X.env)) (RR (.ref s₂.heap.objs.size) (s₂.heap.push q1R).objs.size) { s₂ with heap := pushCells ((s₂.heap.push q1R).push q6a) scope.names }
 rw [hsz1]
 generalize hDe : s₂.heap.objs.size = D at *
 generalize cellsFrom (D + 1 + 1) scope.names (q0k X.env.cells scope.names []) = cells at *
 generalize pushCells ((s₂.heap.push q1R).push q6a) scope.names = h4 at *
 have hfp : ∀ {pins' : List (Addr × Obj)} {H' : Hp}, (∀ b ∈ fp, H' b = none) -> (∀ p ∈ pins', p.1 = D) -> ∀ b ∈ fp, FpOk (q0v X scope N' (D + 1) cells s₂ H fp) pins' H' b := λ {pins' H'} hn hp b hb =>
  ⟨hn b hb, (I4.ok.exf b hb).1, I4.ok.exfs b hb, .inl hb, (I4.ok.exf b hb).2, λ p hp' z => by
   have hp' : p ∈ ([] : List (Addr × Obj)) ++ pins' := hp'
   rw [List.nil_append] at hp'
   have := ho b hb
   rw [← z, hp p hp'] at this
   exact Nat.lt_irrefl _ this⟩
 obtain ⟨W, ⟨m0, w0⟩, turn⟩ := h
 have hDC : D ≠ (q0v X scope N' (D + 1) cells s₂ H fp).env.locals := by show D ≠ D + 1; omega
 have hDcell : ∀ x c, (q0v X scope N' (D + 1) cells s₂ H fp).env.cells.lookup x = some c -> c ≠ D := λ x c e z => by
  obtain ⟨v, o, hoc, hd⟩ := I4.cell x c e
  have q : h4.get? D = some o := by rw [← z]; exact hoc
  rw [hD4] at q; cases q; cases hd
 have hDfs : D ∉ (q0v X scope N' (D + 1) cells s₂ H fp).fs := λ z => by
  obtain ⟨_, o, ho', _⟩ := I4.ok.funs.mem z
  have := Heap.lt_size ho'
  have e : s₂.heap.objs.size = D := hDe
  exact absurd this (by show ¬ D < s₂.heap.objs.size; omega)
 have loop : codeAny (model X.prog X.w) X.A (.compLoop (.ListComp elt [⟨tg, iter, ifs, 0⟩] scope pos) 0 (.ref it) (.ref D) (compEnvC scope cells (D + 1) X.env)) (RR (.ref D) (D + 1)) { s₂ with heap := h4 } := by
  refine q5C (λ n s' => ∃ i ys its k σ' H', Inv (q0v X scope N' (D + 1) cells s₂ H fp) [] σ' H' s' /\ tn i s'.heap /\ (∀ b ∈ fp, H' b = none) /\ H' D = none /\
   s'.heap.get? D = some { cls := .type "list", data := .seq (its : List Value).toArray k } /\ Vals ys its /\ ys.length <= sizeLine /\ W i n ys σ' H') ?_ m0
   ⟨0, [], [], _, _, H, I4, T.keep _ _ _ st λ b _ o e => keep b o e, λ b hb => (f b hb).1, I.hok.fresh (by omega), hD4, .nil, Nat.zero_le _, w0⟩
  rintro n s3 ⟨i, ys, its, k, σ3, H3, I3, st3, fr3, hD3, oD3, rv, hl, w3⟩
  have I3p : Inv (q0v X scope N' (D + 1) cells s₂ H fp) [(D, { cls := .type "list", data := .seq its.toArray k })] σ3 H3 s3 := I3.pins_of λ p hp => by
   have e : p = (D, { cls := .type "list", data := .seq its.toArray k }) := by simpa using hp
   subst e
   exact ⟨oD3, hD3, hDC, hDfs, λ v z => by cases z⟩
  have pinD : ∀ p ∈ [((D : Addr), ({ cls := .type "list", data := .seq its.toArray k } : Obj))], p.1 = D := λ p hp => by
   have e : p = (D, { cls := .type "list", data := .seq its.toArray k }) := by simpa using hp
   subst e; rfl
  rcases turn i n ys σ3 H3 w3 with ⟨stop, fin⟩ | ⟨go, hlt, step⟩
  ·refine thn (T.done (q0v X scope N' (D + 1) cells s₂ H fp) rfl rfl rfl hc i _ s3 σ3 H3 _ I3p (hfp fr3 pinD) st3 stop) λ r s4 ⟨hr, I4'⟩ => ?_
   subst hr
   have oD := (I4'.pin (D, _) (List.mem_append_right _ List.mem_cons_self)).1
   have un : Un (frs X.stack) fp H H3 s₂.heap s4.heap := I4'.base
   have hn : s₂.heap.get? D = none := Heap.get?_none_of_le (by rw [hDe]; exact Nat.le_refl _)
   obtain ⟨mC, hnC, _⟩ := I4'.loc
   refine hRR D (D + 1) H3 s4 mC ys (I.call' I4'.os (un.track hD3 hn) (I4'.hok.track hD3 ⟨hl, its, k, rv, oD⟩) I4'.bare λ b hb => ?_) hD3 hnC ?_ ?_ ?_ (λ x c e => ?_) (λ p hp => ?_) fin
   ·obtain ⟨_, f1, f2, f3, f4, f5⟩ := f b hb
    exact ⟨f3, f1, f4, f5⟩
   ·rw [q0z (show @Ne Nat (D + 1) D by omega)]; exact I4'.free
   ·have q : @LT.lt Nat _ X.env.locals s₂.heap.objs.size := I.lt
    show @Ne Nat (D + 1) X.env.locals
    omega
   ·have q : @LE.le Nat _ X.s₀.heap.objs.size s₂.heap.objs.size := I.sz
    show @LE.le Nat _ X.s₀.heap.objs.size (D + 1)
    omega
   ·obtain ⟨v, z⟩ := I.cell x c e
    have q : @LT.lt Nat _ c s₂.heap.objs.size := z.lt
    show @Ne Nat c (D + 1)
    omega
   ·have q : @LT.lt Nat _ p.1 s₂.heap.objs.size := Heap.lt_size (I.pin p hp).1
    show @Ne Nat p.1 (D + 1)
    omega
  ·refine thn (T.item (q0v X scope N' (D + 1) cells s₂ H fp) rfl rfl rfl hc i _ s3 σ3 H3 _ I3p (hfp fr3 pinD) st3 go) λ r s4 ⟨u, hr, h4'⟩ => ?_
   subst hr
   refine thn h4' λ _ s5 ⟨x, H5, I5, r5, y5, st5, fr5⟩ => ?_
   have I5' := I5.pinned (hfp fr5 pinD) (T.obj _ _ st5)
   refine wpAny_mono (hg (D + 1) cells s₂ H fp _ s5 σ3 H5 x u _ I5' r5 (step x H5 y5)) (λ _ s6 ⟨σ6, H6, I6, q6⟩ => ?_) λ _ _ z => z.elim
   refine wpAny_mono (ht (D + 1) cells s₂ H fp _ s6 σ6 H6 _ I6 q6) (λ b s7 ⟨H7, I7, q7⟩ => ?_) λ _ _ z => z.elim
   have fpK : ∀ {H' : Hp} {s' : Shared}, Inv (q0v X scope N' (D + 1) cells s₂ H fp) ([(D, { cls := .type "list", data := .seq its.toArray k })] ++ q6d fp s5.heap) σ6 H' s' -> tn (i + 1) s'.heap /\ (∀ b ∈ fp, H' b = none) /\ s'.heap.get? D = some { cls := .type "list", data := .seq its.toArray k } /\ H' D = none := λ {H' s'} J' => by
    refine ⟨T.keep _ _ _ st5 λ b hb o e => (J'.pin (b, o) (List.mem_append_right _ (List.mem_append_right _ (q2B hb e)))).1, λ b hb => ?_, ?_, ?_⟩
    ·obtain ⟨o, e, d⟩ := T.obj _ _ st5 b hb
     exact (J'.pin (b, o) (List.mem_append_right _ (List.mem_append_right _ (q2B hb e)))).2.1
    ·exact (J'.pin (D, _) (List.mem_append_right _ (List.mem_append_left _ List.mem_cons_self))).1
    ·exact (J'.pin (D, _) (List.mem_append_right _ (List.mem_append_left _ List.mem_cons_self))).2.1
   cases b with
   | false =>
    rw [if_neg Bool.false_ne_true] at q7 ⊢
    obtain ⟨m', hm, w7⟩ := q7
    obtain ⟨k1, k2, k3, k4⟩ := fpK I7
    exact ⟨m', hm, i + 1, ys, its, k, σ6, H7, I7.pins_of (λ p hp => (nomatch hp)), k1, k2, k4, k3, rv, hl, w7⟩
   | true =>
    rw [if_pos rfl] at q7 ⊢
    refine wpAny_mono (he (D + 1) cells s₂ H fp _ s7 σ6 H7 _ I7 q7) (λ y s8 ⟨v8, H8, I8, r8, q8⟩ => ?_) λ _ _ z => z.elim
    obtain ⟨m', hm, w8⟩ := q8
    obtain ⟨k1, k2, k3, k4⟩ := fpK I8
    have hits : its.length <= sizeLine := by rw [← rv.length]; exact hl
    refine append_at k3 (λ h9 hs9 hD9 => ?_) (by rw [List.size_toArray]; exact hits)
    have I9 : Inv (q0v X scope N' (D + 1) cells s₂ H fp) [] σ6 H8 s8 := I8.pins_of λ p hp => (nomatch hp)
    refine ⟨m', hm, i + 1, ys ++ [v8], its ++ [y], k + 1, σ6, H8, I9.turned (it := D) (t' := s8.toks) (λ b o hb e => (hs9.2 b hb).trans e) k4 hDC (.inr (by show s₂.heap.objs.size <= D; omega)) hDcell (λ p hp => (nomatch hp)), ?_, k2, k4, ?_, rv.snoc r8, ?_, w8⟩
    ·exact T.keep _ _ _ k1 λ b hb o e => (hs9.2 b (by have q : @LT.lt Nat _ b D := ho b hb; show @Ne Nat b D; omega)).trans e
    ·rw [hD9, List.push_toArray]
    ·rw [List.length_append, List.length_singleton]; omega
 exact codeAny_compStart_list loop (T.self X.A 0 _ _ _ (T.keep _ _ _ st λ b _ o e => keep b o e) loop)
noncomputable def z3g (fr : List (Option Nat)) (wi : TI) (g : TG) (tc : TT) (te : TE) : TE := λ σ H Q => wi σ H λ J H1 => z3D J g tc te (λ ys H' => ∀ p, H' p = none -> Q (.ref p) (upd H' p (.lst ys))) (inner fr σ) H1
theorem z2U {X : Cx} {N' : List Str} {scope : Scope} {fr : List (Option Nat)} {iter elt tg : Expr} {ifs : List Expr} {pos : Pos} {wi : TI} {g : TG} {te : TE} {tc : TT} (S : CompScope X.N N' scope X.env.scope fr) (hc : X.calm = true) (hi : PI X tg iter wi)
  (hg : ∀ C cells s₂ H₂ fp, PG (q0v X scope N' C cells s₂ H₂ fp) tg g) (ht : ∀ C cells s₂ H₂ fp, PTs (q0v X scope N' C cells s₂ H₂ fp) ifs tc) (he : ∀ C cells s₂ H₂ fp, PE (q0v X scope N' C cells s₂ H₂ fp) elt te)
  (hs : ∀ x, foldedSetIterable iter X.env x = pure x := by intro _; rfl) : PE X (.ListComp elt [⟨tg, iter, ifs, 0⟩] scope pos) (z3g fr wi g tc te) := by
 intro pins s σ H Q I h
 rw [eval_ListComp]
 have hfree : ∀ y ∈ scope.names, y.2 = NameKind.free -> ∃ c, X.env.cells.lookup y.1 = some c := λ y hy hk => I.ok.has y.1 (S.out y hy hk)
 refine wpAny_comprehension_free (use := none) rfl hs (q2q hfree) S.kind (λ x hx hl => q0N S.snd (by rw [← hl]; exact hx)) (thn (hi pins s σ H _ I h) λ v s1 h1 => thn h1 λ itv s2 h2 => ?_)
 obtain ⟨it, fp, tn, J, H2, e, I2, T, st2, f2, w⟩ := h2
 subst e
 refine q7j (RR := λ acc C => compPost (model X.prog X.w) X.A X.xe none (EP X pins σ Q) acc C) S hc hg ht he I2 T st2 f2 w ?_
 intro D C H' s' m ys I' hD hnC hCn hCL hCs hCc hCp fin
 exact ⟨m, hnC, λ h' hs' => ⟨.ref D, _, I'.turned (it := C) (t' := s'.toks) (λ b o hb e => (hs'.2 b hb).trans e) hCn hCL (.inr hCs) hCc hCp, rfl, fin D hD⟩⟩
theorem q7T {X : Cx} {N' : List Str} {scope : Scope} {fr : List (Option Nat)} {iter elt tg : Expr} {ifs : List Expr} {pos spos py : Pos} {y : Str} {i : Nat} {wi : TI} {g : TG} {te : TE} {tc : TT} (S : CompScope X.N N' scope X.env.scope fr) (hc : X.calm = true) (hN : X.N.Nodup) (hiN : X.N[i]? = some y)
  (hy : X.env.scope.names.lookup y = some .local) (hi : PI X tg iter wi)
  (hg : ∀ C cells s₂ H₂ fp, PG (q0v X scope N' C cells s₂ H₂ fp) tg g) (ht : ∀ C cells s₂ H₂ fp, PTs (q0v X scope N' C cells s₂ H₂ fp) ifs tc) (he : ∀ C cells s₂ H₂ fp, PE (q0v X scope N' C cells s₂ H₂ fp) elt te)
  (hsw : swapsWith (.ListComp elt [⟨tg, iter, ifs, 0⟩] scope pos) (some (.Name y py)) spos.line X.env = pure true := by rfl)
  (hs : ∀ x, foldedSetIterable iter X.env x = pure x := by intro _; rfl) : PS X (.Assign [.Name y py] (.ListComp elt [⟨tg, iter, ifs, 0⟩] scope pos) spos) (tAsg (z3g fr wi g tc te) (q8D i)) := by
 intro pins s σ H Dn I h
 rw [exec_Assign_Name_used _ _ _ _ hsw]
 refine wpAny_bind (wpAny_standAt (wpAny_bind ?_))
 show wpAny _ _ (do let _ ← comprehension (.ListComp elt [⟨tg, iter, ifs, 0⟩] scope pos) scope X.env _ (newList []) false (eval iter X.env) (some (assign (.Name y py) X.env))) _ _ s
 have hfree : ∀ y ∈ scope.names, y.2 = NameKind.free -> ∃ c, X.env.cells.lookup y.1 = some c := λ y hy hk => I.ok.has y.1 (S.out y hy hk)
 refine wpAny_bind (wpAny_mono (wpAny_comprehension_free (use := some (assign (.Name y py) X.env)) (Q := λ _ s' => SP X pins Dn .next s') rfl hs (q2q hfree) S.kind (λ x hx hl => q0N S.snd (by rw [← hl]; exact hx))
  (thn (hi pins s σ H _ I h) λ v s1 h1 => thn h1 λ itv s2 h2 => ?_)) (λ _ s' hq => wpAny_pure (wpAny_pure hq)) λ _ _ e => e)
 obtain ⟨it, fp, tn, J, H2, e, I2, T, st2, f2, w⟩ := h2
 subst e
 refine q7j (RR := λ acc C => compPost (model X.prog X.w) X.A X.xe (some (assign (.Name y py) X.env)) (λ _ s' => SP X pins Dn .next s') acc C) S hc hg ht he I2 T st2 f2 w ?_
 intro D C H' s' m ys I' hD hnC hCn hCL hCs hCc hCp fin
 refine wpAny_assign_Name (q5L (v := .ref D) I' hN hiN (Or.inl hy) rfl (λ s'' I'' ⟨a, hsb, ha⟩ => ⟨m, hnC.sameBut hsb ?_, λ h' hs' => ⟨_, _, I''.turned (it := C) (t' := s''.toks) (λ b o hb e => (hs'.2 b hb).trans e) hCn hCL (.inr hCs) hCc hCp, fin D hD⟩⟩) (.inr hy))
 rcases ha with z | z
 ·rw [z]; exact hCL
 ·exact Ne.symm (hCc y a z)
end L2
end
section
namespace L2
open PySem PySem.Spec PyProof.Rows
structure Fly (P : Program) (w : World) (base : Heap) (l : List Env) (ea : Addr) (C : Value) (H : Hp) (B h : Heap) : Prop where
 fly : ∃ a0, Heap.FlyingW B l ea C a0 h
 bas : ∀ b o, base.get? b = some o -> B.get? b = some o
 hok : HOk P w H B
theorem Fly.stays {P : Program} {w : World} {base : Heap} {l : List Env} {ea : Addr} {C : Value} {H : Hp} {B h : Heap} (F : Fly P w base l ea C H B h) : ∀ b o, B.get? b = some o -> h.get? b = some o := by
 obtain ⟨a0, f⟩ := F.fly
 exact f.1
noncomputable def CXx (P : Program) (w : World) (base : Heap) : CXT := λ outer H s E e s' => ∃ (ea : Addr) (C : Value) (H' : Hp) (B : Heap), e = .ref ea /\ s'.os = s.os /\ AllBare s'.gens /\ Un (frs outer) [] H H' s.heap s'.heap /\
 Fly P w base outer ea C H' B s'.heap /\ (∀ b o, s.heap.get? b = some o -> b ∉ frs outer -> ∃ o', B.get? b = some o') /\ E C none H'
theorem Un.flown {fs ex : List Addr} {H H' : Hp} {h0 h1 h2 B : Heap} (u : Un fs ex H H' h0 h1) (cov : ∀ b o, h0.get? b = some o -> b ∉ fs -> b ∉ ex -> ∃ o', B.get? b = some o') (s1 : ∀ b o, B.get? b = some o -> h1.get? b = some o) (s2 : ∀ b o, B.get? b = some o -> h2.get? b = some o)
  (up : h1.UpToSlots h2) (fd : ∀ b ∈ fs, b ∉ ex /\ H b = none /\ ∀ o, h0.get? b = some o -> ∀ vs, o.data ≠ .fields vs) : Un fs ex H H' h0 h2 := by
 have keep : ∀ b o, h0.get? b = some o -> H b = none -> b ∉ fs -> b ∉ ex -> h2.get? b = some o := λ b o e n hb hx => by
  have e1 := u.keep b o e n hb hx
  obtain ⟨o', q⟩ := cov b o e hb hx
  have q1 := s1 b o' q
  rw [e1] at q1; cases q1
  exact s2 b o q
 have slot : ∀ b o, h0.get? b = some o -> H b = none -> b ∈ fs -> b ∉ ex -> ∃ sl, h2.get? b = some { o with slots := sl } := λ b o e n hb hx => by
  obtain ⟨sl, e1⟩ := u.slot b o e n hb hx
  obtain ⟨sl', e2⟩ := up b _ e1 ((fd b hb).2.2 o e)
  exact ⟨sl', e2⟩
 refine ⟨keep, slot, u.free, λ b o e hx => ?_, u.tups, u.frzs, u.tbls⟩
 by_cases hb : b ∈ fs
 ·obtain ⟨sl, q⟩ := slot b o e (fd b hb).2.1 hb hx
  exact ⟨_, q⟩
 ·obtain ⟨o', q⟩ := cov b o e hb hx
  exact ⟨o', s2 b o' q⟩
section
variable {X : Cx} {pins : List (Addr × Obj)} {σ : St} {H : Hp} {s : Shared}
theorem Inv.frameData (I : Inv X pins σ H s) : ∀ b ∈ X.fs, b ∉ X.ex /\ X.H₀ b = none /\ ∀ o, X.s₀.heap.get? b = some o -> ∀ vs, o.data ≠ .fields vs := λ b hb => by
 refine ⟨λ z => I.ok.exfs b z hb, I.ok.frf b hb, λ o e => ?_⟩
 obtain ⟨_, o', e', d⟩ := I.ok.funs.mem hb
 rw [e] at e'; cases e'
 exact d
theorem Inv.notStk (I : Inv X pins σ H s) {b : Addr} {o : Obj} (e : X.s₀.heap.get? b = some o) (hb : b ∉ X.fs) : b ∉ frs X.stack := λ z => by
 rcases List.mem_cons.mp (I.stkSub b z) with q | q
 ·exact absurd (Nat.lt_of_lt_of_le (Heap.lt_size e) I.ok.above) (by rw [q]; exact Nat.lt_irrefl _)
 ·exact hb q
end
section
variable {P : Program} {w : World} {K : PySem.W.Frag} {mg : Str -> Option Value} {base : Heap} {N : List Str} {qual : Str} {scope : Scope} {f : Addr} {cd : Value} {A : Around} {outer : List Env} {s : Shared} {H : Hp} {E : XK}
noncomputable abbrev cxD (P : Program) (w : World) (K : PySem.W.Frag) (mg : Str -> Option Value) (base : Heap) (N : List Str) (qual : Str) (scope : Scope) (f : Addr) (cd : Value) (A : Around) (outer : List Env) (s : Shared) (H : Hp) (E : XK) : Cx :=
 cxOf (CXx P w base) P w K mg base N qual scope f cd A outer s H E
theorem q6K {pins : List (Addr × Obj)} {σ : St} {H1 : Hp} {s1 : Shared} {h' : Heap} {ea : Addr} {C : Value} {vs : List Value} (I : Inv (cxD P w K mg base N qual scope f cd A outer s H E) pins σ H1 s1) (hx : Heap.MadeExcOf s1.heap h' ea C vs) (hE : E C none H1) :
  (cxD P w K mg base N qual scope f cd A outer s H E).xe (.ref ea) { s1 with heap := h' } := by
 have hstk := I.stack
 have hin : ∀ env ∈ (cxD P w K mg base N qual scope f cd A outer s H E).stack, ∀ a, env.frame = some a -> a ∈ frs (cxD P w K mg base N qual scope f cd A outer s H E).stack := λ env he b hb => List.mem_filterMap.mpr ⟨env, he, hb⟩
 have hB1 : ∀ b o, (PySem.W.hideAll s1.heap (frs (cxD P w K mg base N qual scope f cd A outer s H E).stack)).get? b = some o -> s1.heap.get? b = some o := λ b o q => PySem.W.of_hideAll _ q
 have hHid : ∀ b u, H1 b ≠ none -> s1.heap.get? b = some u -> (PySem.W.hideAll s1.heap (frs (cxD P w K mg base N qual scope f cd A outer s H E).stack)).get? b = some u := λ b u hb q => PySem.W.hideAll_get _ q λ z => hb (I.stkFree b z)
 refine wpAny_leaves_madeW (base := PySem.W.hideAll s1.heap (frs (cxD P w K mg base N qual scope f cd A outer s H E).stack)) (h := s1.heap) I.ok.frames rfl hB1 (PySem.W.funFrames_hide hstk hin) hx λ h2 t fl tup nt up => ?_
 have hcov : ∀ b o, s.heap.get? b = some o -> b ∉ frs outer -> ∃ o', (PySem.W.hideAll s1.heap (frs (cxD P w K mg base N qual scope f cd A outer s H E).stack)).get? b = some o' := λ b o e hb => by
  obtain ⟨o1, e1⟩ := I.base.there b o e (by intro z; exact nomatch z)
  exact ⟨o1, PySem.W.hideAll_get _ e1 (I.notStk e hb)⟩
 refine ⟨ea, C, H1, _, rfl, I.os, I.bare, I.base.flown (λ b o e hb _ => hcov b o e hb) hB1 fl.1 ((Heap.UpToSlots.of_keeps hx.keeps).trans up) I.frameData, ⟨⟨_, fl⟩, λ b o e => ?_, λ a o q => ?_⟩, hcov, hE⟩
 ·refine PySem.W.hideAll_get _ (I.bk b o e) λ z => ?_
  have q : base.get? b = none := (hstk.mem z).1
  rw [q] at e; cases e
 ·refine (I.hok a o q).stay (λ b u hc e => hHid b u ?_ e) (λ _ z => z) λ _ _ z => z
  rcases hc with z | z
  ·subst z; rw [q]; intro z; cases z
  ·rw [z]; intro z; cases z
theorem z1e {pins : List (Addr × Obj)} {σ : St} {H1 : Hp} {s1 : Shared} {ea : Addr} {C : Value} {B : Heap} (I : Inv (cxD P w K mg base N qual scope f cd A outer s H E) pins σ H1 s1) (F : Fly P w base (cxD P w K mg base N qual scope f cd A outer s H E).stack ea C H1 B s1.heap)
  (cov : ∀ b o, s.heap.get? b = some o -> b ∉ frs (cxD P w K mg base N qual scope f cd A outer s H E).stack -> ∃ o', B.get? b = some o') (hE : E C none H1) : (cxD P w K mg base N qual scope f cd A outer s H E).xe (.ref ea) s1 := by
 obtain ⟨a0, fl⟩ := F.fly
 refine wpAny_leaves_onW I.ok.frames rfl fl λ h2 fl2 up => ?_
 have hcov : ∀ b o, s.heap.get? b = some o -> b ∉ frs outer -> ∃ o', B.get? b = some o' := λ b o e hb => cov b o e (I.notStk e hb)
 exact ⟨ea, C, H1, B, rfl, I.os, I.bare, I.base.flown (λ b o e hb _ => hcov b o e hb) F.stays fl2.1 up I.frameData, ⟨⟨_, fl2⟩, F.bas, F.hok⟩, hcov, hE⟩
theorem q7M : q9e (CXx P w base) (cxD P w K mg base N qual scope f cd A outer s H E) E := by
 intro pins σ H0 s0 e s' I hcx
 obtain ⟨ea, C, H', B, rfl, os, bare, un, F, cov, hE⟩ := hcx
 have I' : Inv (cxD P w K mg base N qual scope f cd A outer s H E) pins σ H' s' := I.call' os un (F.hok.kept F.stays) bare λ b hb => nomatch hb
 refine z1e I' F (λ b o e hb => ?_) hE
 obtain ⟨o1, e1⟩ := I.base.there b o e (by intro z; exact nomatch z)
 exact cov b o1 e1 hb
end
noncomputable def excO (ea : Addr) (C : Value) : HO := .ext λ h => ∃ oe vs, h.get? ea = some oe /\ oe.cls = C /\ oe.data = .fields vs
noncomputable def XP (X : Cx) (pins : List (Addr × Obj)) (E : St -> Value -> Hp -> Prop) (e : Value) (s' : Shared) : Prop := ∃ (ea : Addr) (C : Value) (σ' : St) (H' : Hp) (B : Heap), e = .ref ea /\ Inv X pins σ' H' s' /\ Fly X.prog X.w X.base X.stack ea C H' B s'.heap /\
 (∀ b o, X.s₀.heap.get? b = some o -> b ∉ frs X.stack -> b ∉ X.ex -> ∃ o', B.get? b = some o') /\ (∀ p ∈ X.pn ++ pins, ∃ o', B.get? p.1 = some o') /\ E σ' C H'
section
variable {X : Cx} {pins pins' : List (Addr × Obj)} {σ : St} {H : Hp} {s : Shared} {E : St -> Value -> Hp -> Prop} {ea : Addr}
theorem Inv.track {a : Addr} {o : HO} (I : Inv X pins σ H s) (hn : H a = none) (h0 : X.s₀.heap.get? a = none) (hL : a ≠ X.env.locals) (hc : ∀ x c, X.env.cells.lookup x = some c -> c ≠ a) (hp : ∀ p ∈ X.pn ++ pins, p.1 ≠ a) (new : q1V X.prog X.w (upd H a o) s.heap a o) :
  Inv X pins σ (upd H a o) s :=
 ⟨I.ok, I.os, I.bare, I.base.track hn h0, I.loc, I.cell, by rw [q0z (Ne.symm hL)]; exact I.free, λ x c e => by rw [q0z (hc x c e)]; exact I.freeC x c e, λ p hq => by
  obtain ⟨e, n, ne, nf, d⟩ := I.pin p hq
  exact ⟨e, by rw [q0z (hp p hq)]; exact n, ne, nf, d⟩, I.hok.track hn new, I.len⟩
end
noncomputable def q4s (CX : CXT) (X : Cx) (E : St -> XK) : Prop := ∀ (pins : List (Addr × Obj)) (σ : St) (H : Hp) (s : Shared) (e : Value) (s' : Shared), Inv X pins σ H s -> CX X.stack H s (E σ) e s' -> X.xe e s'
theorem q9e.s {CX : CXT} {X : Cx} {E : XK} (h : q9e CX X E) : q4s CX X λ _ => E := λ pins σ H s e s' I q => h pins σ H s e s' I q
section
variable {X : Cx} {CX : CXT} {k : Nat} {f C : Addr} {fd : FuncData} {ps : List Str} {sp : Sp} {dvs : List V} {ds : List Value} {E : St -> XK} {x m : Str} {p pos apos : Pos} {e o : Expr} {es : List Expr} {ta : TE} {t : TA}
theorem z2W {pins : List (Addr × Obj)} {σ : St} {H : Hp} {s : Shared} {Q : VK} {us : List Value} {vs : List V} (F : FnOk X.prog X.w X.K X.mg X.base CX k f fd ps sp) (hr : Room k X.A) (hb : q6m X.K fd ps ds) (hd : Vals dvs ds) (hx : q4s CX X E)
  (I : Inv X pins σ H s) (r : Vals vs us) (h : sp (vs ++ dvs) H Q (E σ)) : wpAny (model X.prog X.w) X.A (call (.ref f) us) (EP X pins σ Q) X.xe s := by
 have r2 : Vals (vs ++ dvs) (us ++ ds) := r.append hd
 have hl : (us ++ ds).length = ps.length := by rw [← r2.length]; exact F.len _ _ _ _ h
 refine wpAny_call (codeAny_mono (F.run X.A X.stack s H ⟨us, []⟩ (us ++ ds) (vs ++ dvs) Q (E σ) hr I.env0 (hb s us I.kIn hl) r2 h) λ r s' hq => ?_)
 cases r with
 | error e => exact hx pins σ H s e s' I hq
 | ok fl =>
  cases fl with
  | ret u => exact I.after hq
  | next => exact False.elim hq
  | brk => exact False.elim hq
  | cont => exact False.elim hq
noncomputable def z5y (sp : Sp) (dvs : List V) (E : St -> XK) (t : TA) : TE := λ σ H Q => t σ H λ vs H1 => sp (vs ++ dvs) H1 Q (E σ)
theorem z0x (F : FnOk X.prog X.w X.K X.mg X.base CX k f fd ps sp) (hr : Room k X.A) (hg : Gl X x) (hm : X.mg x = some (.ref f)) (hk : PySem.W.keepIn X.K (.ref f) = true) (hb : q6m X.K fd ps ds) (hd : Vals dvs ds) (hx : q4s CX X E)
  (ha : PA X (e :: es) t) (hdb : (x == ("__debug__" : Str)) = false := by decide) (he : starEach (e :: es) X.env = (false, eval e X.env) :: starEach es X.env := by rfl) (hpl : (backTo pos (starEach es X.env)).any (·.1) = false := by rfl) :
  PE X (.Call (.Name x p) (e :: es) [] pos) (z5y sp dvs E t) := by
 intro pins s σ H Q I h
 refine wpAny_Call_Name_kw (q6C I hg hm ?_ hdb)
 refine PySem.W.callWith_K (h₀ := X.base) I.ok.mod.kin hk (thn (ha pos pins s σ H _ I h) λ us s1 ⟨vs, H1, I1, r, q⟩ => ⟨I1.kIn, ?_⟩) he hpl
 exact z2W F hr hb hd hx I1 r q
end
theorem z0t {K : PySem.W.Frag} {h₀ : Heap} {mg : Str -> Option Value} {x : Str} {C : Addr} {bmB : List Value} {newId : String} (X : K.In h₀) (hm : mg x = some (.ref C)) (q : PySem.W.excIn K C bmB newId = true) : OwnCls x C bmB newId mg h₀ := by
 refine ⟨hm, ?_⟩
 unfold PySem.W.excIn at q
 split at q
 ·rename_i dd cd sl ho
  split at q
  ·rename_i C' bm k0 k1 k2 k3 n k5 hm hs
   simp only [Bool.and_eq_true, beq_iff_eq, Bool.not_eq_true'] at q
   obtain ⟨⟨⟨⟨⟨rfl, rfl⟩, hdel⟩, ht⟩, hok⟩, hni⟩ := q
   obtain ⟨nm, bs, mro, ns, qn, hd, sn, sub, ab, col, del⟩ := cd
   dsimp only at hm hdel hok hni
   subst hm hdel
   have hsl : sl = #[k0, k1, k2, k3, some (.builtin n), k5] := by
    obtain ⟨l⟩ := sl
    simp only at hs
    rw [hs]
   subst hsl
   exact ⟨bm, ns, nm, qn, bs, hd, sn, sub, ab, col, dd, k0, k1, k2, k3, k5, _, X _ _ ho, .of_isNs (PySem.W.isNs_of_in X hok), PySem.W.nsMap_none_of_in X hok hni, PySem.W.tail_of_in X ht⟩
  ·cases q
 ·cases q
noncomputable def q3K (X : Cx) (E : St -> XK) : Prop := ∀ (pins : List (Addr × Obj)) (σ : St) (H : Hp) (s : Shared) (h' : Heap) (ea : Addr) (C : Value) (vs : List Value), Inv X pins σ H s -> Heap.MadeExcOf s.heap h' ea C vs -> E σ C none H -> X.xe (.ref ea) { s with heap := h' }
theorem q7W {P : Program} {w : World} {K : PySem.W.Frag} {mg : Str -> Option Value} {base : Heap} {N : List Str} {qual : Str} {scope : Scope} {f : Addr} {cd : Value} {A : Around} {outer : List Env} {s : Shared} {H : Hp} {E : XK} :
  q3K (cxD P w K mg base N qual scope f cd A outer s H E) λ _ => E := λ pins σ H1 s1 h' ea C vs I hx hE => q6K I hx hE
noncomputable def z3Z (C : Addr) (E : St -> XK) (t : TA) : TS := λ _ σ H => t σ H λ vs H1 => vs.length <= sizeLine /\ E σ (.ref C) none H1
theorem z0j {X : Cx} {x : Str} {C : Addr} {bmB : List Value} {B newId initId : String} {np cpos pos : Pos} {e₀ : Expr} {rest : List Expr} {t : TA} {E : St -> XK} (FB : ExcBaseFacts B newId initId bmB) (hc : X.calm = true) (hg : Gl X x) (hm : X.mg x = some (.ref C)) (hx : PySem.W.excIn X.K C bmB newId = true)
  (hR : q3K X E) (ha : PA X (e₀ :: rest) t) (hd : (x == ("__debug__" : Str)) = false := by decide) (he : starEach (e₀ :: rest) X.env = (false, eval e₀ X.env) :: starEach rest X.env := by rfl) (hpl : (backTo cpos (starEach rest X.env)).any (·.1) = false := by rfl) :
  PS X (.Raise (some (.Call (.Name x np) (e₀ :: rest) [] cpos)) none pos) (z3Z C E t) := by
 intro pins s σ H D I h
 obtain ⟨tl, N, nm, q, bs, hdct, sn, sub, ab, col, dd, k0, k1, k2, k3, k5, mN, hC, hN, hni, T⟩ := (z0t I.mod.kin hm hx).obj
 refine wpAny_Raise_call_subT (C := C) (nm := nm) (q := q) (N := N) (bs := bs) (bm := tl) (hdct := hdct) (sn := sn) (sub := sub) (ab := ab) (col := col) (dd := dd) (k0 := k0) (k1 := k1) (k2 := k2) (k3 := k3) (k5 := k5)
  FB (mN := mN) (T.hasType FB.hasBase) (I.ok.hd hc) (by rw [he]; show (false || (backTo cpos (starEach rest X.env)).any (·.1)) = false; rw [hpl]; rfl) hni (q6C I hg hm ⟨rfl, ?_⟩ hd)
 have hq := ha cpos pins s σ H _ I h
 rw [he] at hq ⊢
 exact Calls.evalArgs_plain (thn hq λ vs s₂ ⟨xs, H2, I2, r2, hl, hE⟩ => ⟨rfl, by show vs.length <= sizeLine; rw [← r2.length]; exact hl, I2.bk _ _ hC, hN.keeps I2.bk, T.keeps I2.bk, λ h' e hm' => hR pins σ H2 s₂ h' e _ _ I2 hm' hE⟩)
theorem Fun.okX {P : Program} {w : World} {K : PySem.W.Frag} {mg : Str -> Option Value} {base : Heap} {x qual : Str} {st : Stmt} {f : Addr} {fd : FuncData} {N ps : List Str} {k : Nat} {sp : Sp} (F : Fun K x qual st f fd) (S : FnScope N ps (q0d st)) (len : ∀ vs H Q E, sp vs H Q E -> vs.length = ps.length)
  (hbody : ∀ (cdv : Value) (A : Around) (outer : List Env) (s : Shared) (H : Hp) (vs : List V) (Q : VK) (E : XK), Room k (A.deeper (envOfC qual (q0d st) s.heap.objs.size f cdv)) -> sp vs H Q E ->
   ∃ t, PSs (cxD P w K mg base N qual (q0d st) f cdv A outer s H E) (q0j st) t /\ t { nx := λ _ H' => Q .non H', rt := Q } (start N vs) H) : FnOk P w K mg base (CXx P w base) (k + 1) f fd ps sp := by
 obtain ⟨oc, od, kV, doc, pm, an, cdv, ct, osl, rfl, lk, hcd⟩ := F.ex
 exact z6k lk hcd S len λ A outer s H vs Q E hr hsp => hbody cdv A outer s H vs Q E hr hsp
end L2
end
section
namespace L2
open PySem PySem.W PySem.Spec PySem.Calls PyProof.Rows PySem.Builtin PySem.Builtin.ObjectAttr PySem.Builtin.Getset_descriptor
section
variable {prog : Program} {w : World} {K : Frag} {x D : Addr} {M : Model} {h : Heap}
structure ClsK (K : Frag) (D : Addr) : Prop where
 ga : findIn K (.ref D) "__getattribute__" = some (some (.builtin "BaseException.__getattribute__"))
 gt : findIn K (.ref D) "__getattr__" = some none
 mb : mroIn K D (.type "BaseException") = some true
 hd : hasDictIn K D = true
 fc : findIn K (.ref D) "__class__" = some (some (.builtin "object.__class__"))
 sg : specialIn K (.builtin "object.__class__") "__get__" = some (some (.builtin "getset_descriptor.__get__"))
 tk : takesIn K (.builtin "object.__class__") = some true
 mo : mroIn K D (.type "object") = some true
variable {A : Around} {E : Value -> Shared -> Prop} {s : Shared}
end
end L2
end
section
namespace L2
open PySem PySem.Spec PyProof.Rows
structure Src (P : Program) (w : World) (ia la : Addr) (vs : Array Value) (S : Nat -> Heap -> Prop) : Prop where
 keep : ∀ k h h', S k h -> (∀ o, h.get? ia = some o -> h'.get? ia = some o) -> (∀ o, h.get? la = some o -> h'.get? la = some o) -> S k h'
 there : ∀ k h, S k h -> ∃ o xs, h.get? ia = some o /\ o.data = .fields xs
 step : ∀ {A : Around} {E : Value -> Shared -> Prop} {s : Shared} {Q : Value -> Shared -> Prop} (k : Nat) (x : Value), S k s.heap -> vs[k]? = some x -> (∀ h', S (k + 1) h' -> Heap.SameBut ia s.heap h' -> Q x { s with heap := h' }) ->
  wpAny (model P w) A (Builtin.SmallTypes.nextOf (.ref ia)) Q E s
 stop : ∀ {A : Around} {E : Value -> Shared -> Prop} {s : Shared} {Q : Value -> Shared -> Prop} (k : Nat), A.handled = none -> S k s.heap -> vs[k]? = none ->
  (∀ h' e, Heap.ExtBut ia s.heap h' -> (∃ o, h'.get? e = some o /\ o.cls = .type "StopIteration") -> E (.ref e) { s with heap := h' }) -> wpAny (model P w) A (Builtin.SmallTypes.nextOf (.ref ia)) Q E s
noncomputable def sL (ia la : Addr) (vs : Array Value) : Nat -> Heap -> Prop := λ k h => h.IsListIter ia la k /\ h.IsList la vs
noncomputable def sT (ia la : Addr) (vs : Array Value) : Nat -> Heap -> Prop := λ k h => h.IsTupleIter ia la k /\ h.IsTuple la vs
theorem z0y {P : Program} {w : World} {ia la : Addr} {vs : Array Value} (ne : la ≠ ia) : Src P w ia la vs (sL ia la vs) where
 keep := λ k h h' ⟨p, q⟩ e1 e2 => ⟨p.at e1, q.at e2⟩
 there := λ k h ⟨p, q⟩ => by obtain ⟨o, e, _, d⟩ := p; exact ⟨o, _, e, d⟩
 step := λ k x ⟨p, q⟩ hx hq => wpAny_nextOf_list_item p q hx λ h' p' sb => hq h' ⟨p', q.extBut sb.extBut ne⟩ sb
 stop := λ k hh ⟨p, q⟩ hx hq => wpAny_nextOf_list_end hh p q hx hq
section
variable {P : Program} {w : World} {A : Around} {E : Value -> Shared -> Prop} {s : Shared}
theorem z1i {ja ta : Addr} {k : Nat} {vs : Array Value} {x : Value} {Q : Value -> Shared -> Prop} (p : s.heap.IsTupleIter ja ta k) (q : s.heap.IsTuple ta vs) (hx : vs[k]? = some x) (hq : ∀ h', h'.IsTupleIter ja ta (k + 1) -> Heap.SameBut ja s.heap h' -> Q x { s with heap := h' }) :
  wpAny (model P w) A (Builtin.SmallTypes.nextOf (.ref ja)) Q E s := by
 obtain ⟨ob, e1, e2, e3⟩ := id p
 obtain ⟨ot, f1, _, nn, f3⟩ := q
 unfold Builtin.SmallTypes.nextOf
 refine wpAny_bind (wpAny_callSpecial?_slot (name := Str.ofString "__next__") p.typeIs F.slot_tuple_iterator_next (wpAny_call_entry F.slot_tuple_iterator_next p.typeIs F.entry_tuple_iterator_next ?_ (F.args_tuple_iterator_next_1 _)))
 show wpAny _ _ (field (.ref ja) 0 >>= _) _ _ s
 refine wpAny_bind (wpAny_field e1 e3 (x := .ref ta) rfl ?_)
 show wpAny _ _ (if (Value.ref ta == Value.none) = true then _ else _) _ _ s
 rw [if_neg (show ¬ ((Value.ref ta == Value.none) = true) from Bool.false_ne_true)]
 show wpAny _ _ (field (.ref ja) 1 >>= _) _ _ s
 refine wpAny_bind (wpAny_field e1 e3 (x := .int k 0) rfl ?_)
 show wpAny _ _ (seqItems? (.ref ta) >>= _) _ _ s
 refine wpAny_bind (wpAny_seqItems f1 f3 ?_)
 simp only [Int.toNat_natCast, hx]
 refine wpAny_bind (wpAny_setField e1 e3 (by simp) (wpAny_pure ⟨x, rfl, wpAny_pure (hq _ ?_ (Heap.SameBut.update ..))⟩))
 exact ⟨_, Heap.get?_update_self _ e1 (Obj.isFreed_of_fields (Obj.data_mapFields e3 _)), (Obj.cls_mapFields ..).trans e2, by rw [Obj.data_mapFields e3]; simp [rawInt]⟩
theorem z0K {ja ta : Addr} {k : Nat} {vs : Array Value} {Q : Value -> Shared -> Prop} (hh : A.handled = none) (p : s.heap.IsTupleIter ja ta k) (q : s.heap.IsTuple ta vs) (hx : vs[k]? = none) (hE : ∀ h' e, Heap.ExtBut ja s.heap h' -> (∃ o, h'.get? e = some o /\ o.cls = .type "StopIteration") -> E (.ref e) { s with heap := h' }) :
  wpAny (model P w) A (Builtin.SmallTypes.nextOf (.ref ja)) Q E s := by
 obtain ⟨ob, e1, e2, e3⟩ := id p
 obtain ⟨ot, f1, _, nn, f3⟩ := q
 unfold Builtin.SmallTypes.nextOf
 refine wpAny_bind (wpAny_callSpecial?_slot (name := Str.ofString "__next__") p.typeIs F.slot_tuple_iterator_next (wpAny_call_entry F.slot_tuple_iterator_next p.typeIs F.entry_tuple_iterator_next ?_ (F.args_tuple_iterator_next_1 _)))
 show wpAny _ _ (field (.ref ja) 0 >>= _) _ _ s
 refine wpAny_bind (wpAny_field e1 e3 (x := .ref ta) rfl ?_)
 show wpAny _ _ (if (Value.ref ta == Value.none) = true then _ else _) _ _ s
 rw [if_neg (show ¬ ((Value.ref ta == Value.none) = true) from Bool.false_ne_true)]
 show wpAny _ _ (field (.ref ja) 1 >>= _) _ _ s
 refine wpAny_bind (wpAny_field e1 e3 (x := .int k 0) rfl ?_)
 show wpAny _ _ (seqItems? (.ref ta) >>= _) _ _ s
 refine wpAny_bind (wpAny_seqItems f1 f3 ?_)
 simp only [Int.toNat_natCast, hx]
 refine wpAny_bind (wpAny_rule (wpAny_bind (wpAny_setField e1 e3 (by simp) ?_)))
 show wpAny _ _ (newExc (.type "StopIteration") [] >>= λ y => raiseNew y) _ _ _
 refine wpAny_bind ?_
 simp only [newExc, newTuple]
 refine wpAny_bind (wpAny_newObj_type ?_ (by size_fits)); refine wpAny_bind (m := firstArgMember _ _) (wpAny_of_eq (a := Value.none) (by first | rfl | (simp only [firstArgMember]; rfl)) ?_)
 refine wpAny_newObj_type ?_ (by size_fits); simp only [raiseNew]; refine wpAny_bind (wpAny_handled ?_)
 first | rw [show A.in1.handled = none from hh] | rw [hh]
 refine wpAny_bind (wpAny_pure (wpAny_throw (hE _ _ (((Heap.SameBut.update ..).extBut.push _).push _) ⟨_, Heap.get?_push_size _ rfl, rfl⟩)))
theorem z3b {ia la : Addr} {vs : Array Value} (ne : la ≠ ia) : Src P w ia la vs (sT ia la vs) where
 keep := λ k h h' ⟨p, q⟩ e1 e2 => ⟨by obtain ⟨o, e, r⟩ := p; exact ⟨o, e1 o e, r⟩, by obtain ⟨o, e, r⟩ := q; exact ⟨o, e2 o e, r⟩⟩
 there := λ k h ⟨p, q⟩ => by obtain ⟨o, e, _, d⟩ := p; exact ⟨o, _, e, d⟩
 step := λ k x ⟨p, q⟩ hx hq => z1i p q hx λ h' p' sb => hq h' ⟨p', q.extBut sb.extBut ne⟩ sb
 stop := λ k hh ⟨p, q⟩ hx hq => z0K hh p q hx hq
variable {Z U W a b l1 l2 : Addr} {k : Nat} {vs1 vs2 : Array Value} {S1 S2 : Nat -> Heap -> Prop} {x y c d : Value}
theorem Src.ext {ia la : Addr} {vs : Array Value} {S : Nat -> Heap -> Prop} {h h' : Heap} {e : Addr} (R : Src P w ia la vs S) (q : S k h) (hs : Heap.ExtBut e h h') (n1 : ia ≠ e) (n2 : la ≠ e) : S k h' := R.keep k h h' q (λ o z => hs _ _ n1 z) (λ o z => hs _ _ n2 z)
end
noncomputable def SqK (t : Bool) (h : Heap) (l : Addr) (vs : Array Value) : Prop := match t with | false => h.IsList l vs | true => h.IsTuple l vs
noncomputable def sK (t : Bool) (ia la : Addr) (vs : Array Value) : Nat -> Heap -> Prop := match t with | false => sL ia la vs | true => sT ia la vs
theorem z4E {P : Program} {w : World} {ia la : Addr} {vs : Array Value} (t : Bool) (ne : la ≠ ia) : Src P w ia la vs (sK t ia la vs) := by
 cases t
 ·exact z0y ne
 ·exact z3b ne
noncomputable def itN : Bool -> String | false => "list_iterator" | true => "tuple_iterator"
noncomputable abbrev itO (t : Bool) (l : Addr) : Obj := { cls := .type (itN t), data := .fields #[.ref l, .int 0 0] }
noncomputable abbrev zH1 (h : Heap) (t1 : Bool) (l1 : Addr) : Heap := h.push (itO t1 l1)
theorem z5k {t : Bool} {ia la : Addr} {vs : Array Value} {h h' : Heap} (e : h'.get? ia = some (itO t la)) (q : SqK t h la vs) (k : ∀ c o, h.get? c = some o -> h'.get? c = some o) : sK t ia la vs 0 h' := by
 cases t
 ·exact ⟨⟨_, e, rfl, rfl⟩, Heap.IsList.at q λ o z => k _ o z⟩
 ·exact ⟨⟨_, e, rfl, rfl⟩, by obtain ⟨o, z, r⟩ := q; exact ⟨o, k _ o z, r⟩⟩
end L2
end
section
namespace PySem
section
variable {prog : Program} {w : World} {A : Around} {E : Value -> Shared -> Prop} {s : Shared}
theorem q2M (a b : Int) : Builtin.Range.rangeSize a b (-1) = if b < a then a - b else 0 := by
 unfold Builtin.Range.rangeSize
 simp
theorem q7H {a b : Int} (ha : -(2 ^ 62) <= a) (ha' : a < 2 ^ 62) (hb : -(2 ^ 62) <= b) (hb' : b < 2 ^ 62) : Builtin.Range.small a b (-1) = true := by
 unfold Builtin.Range.small
 rw [q2M]
 simp only [Builtin.Range.rangeFitsLong, Bool.and_eq_true, Bool.or_eq_true, decide_eq_true_eq, beq_iff_eq, show ¬ ((-1 : Int) > 0) by decide, if_false]
 split <;> omega
end
end PySem
namespace L2
open PySem PySem.Spec PyProof.Rows
variable {X : Cx} {tg : Expr}
noncomputable def Itd (hi : Int) (n : Nat) : It := ⟨λ i _ => i < n, λ i H x H' => H' = H /\ x = .int (hi - i), λ i _ => n <= i⟩
theorem q9V {P : Program} {w : World} {K : PySem.W.Frag} {tg : Expr} (it : Addr) (hi : Int) (n : Nat) : Turn P w K tg (Itd hi n) [it] it (λ i h => IsRangeIter h it (hi + (i : Nat) * (-1)) ((n : Int) - (i : Nat)) (-1)) where
 mem := by simp
 obj := λ i h st b hb => by
  have e : b = it := by simpa using hb
  subst e
  exact ⟨_, st, λ v z => by
   have z' : Data.fields _ = Data.cell v := z
   cases z'⟩
 keep := λ i h h' st k => k it (by simp) _ st
 item := by
  intro X hP hw hK hc i pins s σ H E I hf st hg
  subst hP hw hK
  obtain ⟨f0, f1, f2, f3, f4, f5⟩ := hf it (by simp)
  have W := Walks.range (prog := X.prog) (w := X.w) (I.ok.hd hc) it hi (-1) n
  refine W.item i s _ _ hg st λ v h' tk hv st' kk => ?_
  obtain ⟨t, rfl⟩ := hv
  have I1 : Inv X pins σ H { s with heap := h', toks := tk } := I.turned (λ b o hb e => kk b o (by simpa using hb) e) f0 f1 f3 f4 f5
  refine ⟨_, rfl, z1l (s := { s with heap := h', toks := tk }) (n := "range_iterator") st' rfl rfl (by decide) ⟨.int (hi - i), H, I1, ⟨t, ?_⟩, ⟨rfl, rfl⟩, st', λ b hb => (hf b hb).1⟩⟩
  rw [show hi + (i : Int) * (-1) = hi - i by omega]
 done := by
  intro X hP hw hK hc i pins s σ H E I hf st hg
  subst hP hw hK
  obtain ⟨f0, f1, f2, f3, f4, f5⟩ := hf it (by simp)
  exact wpAny_pyNext_range_end (I.ok.hd hc) st (by have : n <= i := hg; omega) λ h' eb => ⟨rfl, I.turned (t' := s.toks) (λ b o hb e => eb b o hb e) f0 f1 f3 f4 f5⟩
 self := λ _ _ _ _ _ st h => wpAny_pyIter_rangeiter st h
theorem z3r {pins : List (Addr × Obj)} {σ : St} {H : Hp} {s : Shared} {R : It -> Hp -> Prop} {E : Value -> Shared -> Prop} {lo hi : Int} {t u v : Tok} {tk : Nat} (I : Inv X pins σ H s) (h1 : -(2 ^ 62) <= lo) (h2 : lo < 2 ^ 62) (h3 : -(2 ^ 62) <= hi) (h4 : hi < 2 ^ 62)
  (q : R (Itd lo (lo - hi).toNat) H) : wpAny (model X.prog X.w) X.A (pyIter (.ref s.heap.objs.size)) (PIE X pins σ tg R) E { s with heap := s.heap.push { cls := .type "range", data := .fields #[.int lo t, .int hi u, .int (-1) v] }, toks := tk } := by
 refine wpAny_pyIter_range (IsRange.new ..) (q7H h1 h2 h3 h4) ?_
 have I1 : Inv X pins σ H { s with heap := s.heap.push { cls := .type "range", data := .fields #[.int lo t, .int hi u, .int (-1) v] }, toks := tk } := I.kept λ b o e => Heap.get?_push_of_some _ e
 refine ⟨(s.heap.push { cls := .type "range", data := .fields #[.int lo t, .int hi u, .int (-1) v] }).objs.size, [(s.heap.push { cls := .type "range", data := .fields #[.int lo t, .int hi u, .int (-1) v] }).objs.size], _, _, H, rfl,
  I1.kept (t' := tk) λ b o e => Heap.get?_push_of_some _ e, q9V _ lo (lo - hi).toNat, ?_, λ b hb => ?_, q⟩
 ·have e1 : lo + ((0 : Nat) : Int) * (-1) = lo := by simp
  have e2 : (((lo - hi).toNat : Nat) : Int) - ((0 : Nat) : Int) = Builtin.Range.rangeSize lo hi (-1) := by rw [q2M]; split <;> omega
  show IsRangeIter _ _ (lo + ((0 : Nat) : Int) * (-1)) ((((lo - hi).toNat : Nat) : Int) - ((0 : Nat) : Int)) (-1)
  rw [e1, e2]
  exact Heap.get?_push_size _ rfl
 ·have e : b = (s.heap.push { cls := .type "range", data := .fields #[.int lo t, .int hi u, .int (-1) v] }).objs.size := by simpa using hb
  subst e
  exact I1.fpOk (Nat.le_refl _) (I1.hok.fresh (Nat.le_refl _))
noncomputable def z6o (ta : TA) : TI := λ σ H R => ta σ H λ vs H1 => ∃ i j : Int, vs = [.int i, .int j, .int (-1)] /\ (-(2 ^ 62) <= i /\ i < 2 ^ 62 /\ -(2 ^ 62) <= j /\ j < 2 ^ 62) /\ R (Itd i (i - j).toNat) H1
theorem noPl (a : Int) : Builtin.divisionGoesByPylong a (-1) = false := PyProof.noPylong_small (by omega)
theorem q9f {a b c : Expr} {ta : TA} {p pos : Pos} (hg : Gl X "range") (hm : X.mg "range" = none) (ha : PA X [a, b, c] ta) (hs : starEach [a, b, c] X.env = [(false, eval a X.env), (false, eval b X.env), (false, eval c X.env)]) (hs2 : starEach [b, c] X.env = [(false, eval b X.env), (false, eval c X.env)]) :
  PI X tg (.Call (.Name "range" p) [a, b, c] [] pos) (z6o ta) := by
 intro pins s σ H R I h
 refine Call_ (q3b I hg hm boot_range (PyProof.Rows.callWith_type1 (thn (ha pos pins s σ H _ I h) λ us s1 ⟨vs, H1, I1, r1, q1⟩ => ?_) (by rw [hs, hs2]) (by rw [hs2]; rfl)))
 obtain ⟨i, j, e, ⟨q1, q2, q3, q4⟩, q⟩ := q1
 subst e
 cases r1 with
 | cons r rr =>
  cases rr with
  | cons r' rr =>
   cases rr with
   | cons r'' rr =>
    cases rr
    obtain ⟨t, rfl⟩ := r
    obtain ⟨t', rfl⟩ := r'
    obtain ⟨t'', rfl⟩ := r''
    exact call_range_3 (by decide) (z3r I1 q1 q2 q3 q4 q) (Or.inl (noPl _))
end L2
end
section
namespace L2
open PySem
inductive DKey where
 | i (n : Int) | s (x : Str) | t (l : List (Sum Int Str))
 deriving DecidableEq
inductive DV where
 | non | bl (b : Bool) | int (i : Int) | str (x : Str) | tup (ds : List DV) | lst (ds : List DV) | dct (ks : List DKey) (vs : List DV)
 | exc (c : Str) | fn (x : Str)
 | scr (ns : List Int)
inductive Cl where
 | weak | top | strong | fresh | ft
 deriving DecidableEq
inductive Re where
 | ok (d : DV) (c : Cl) | ex (c : Str)
inductive Rs where
 | ok (l : List (DV × Cl)) | ex (c : Str)
inductive Rt where
 | ok (b : Bool) | ex (c : Str)
inductive Sv where
 | no | val (d : DV) | own (d : DV) | ot (d : DV)
inductive Ou where
 | v (d : DV) (fr : Bool) | x (c : Str) | t (d : DV)
inductive Out where
 | nx (δ : List Sv) | rt (d : DV) (fr : Bool) | ex (c : Str) (δ : List Sv) | rtt (d : DV)
inductive Bi where
 | len | abs | min | max | sum | any | all | sorted | sset | lset | int | list | tuple | str | lrng
 deriving DecidableEq
inductive Mt where
 | bitLength | index | get
 deriving DecidableEq
inductive Tg where
 | one (i : Nat) | many (is : List Nat)
inductive ME where
 | var (i : Nat) | int (i : Int) | bl (b : Bool) | str (x : Str) | non | glb (x : Str)
 | bin (op : Operator) (a b : ME) | neg (a : ME) | inv (a : ME) | not (a : ME)
 | cmp (op : CmpOp) (a b : ME) | chain (op op' : CmpOp) (a b c : ME)
 | and (es : List ME) | or (es : List ME) | ite (c a b : ME)
 | lst (es : List ME) | tup (es : List ME) | dct (ks vs : List ME)
 | ix (a b : ME) | sl (a lo hi : ME) | slf (a lo : ME) | slt (a hi : ME)
 | call (f : Nat) (es : List ME) | bi (f : Bi) (es : List ME) | isi (a : ME) (ts : List Str) | isx (a : ME) (t : Str) | meth (m : Mt) (a : ME) (es : List ME)
 | comp (elt : ME) (tg : Tg) (it : ME) (fr : List (Option Nat)) | compi (elt : ME) (tg : Tg) (it c : ME) (fr : List (Option Nat))
 | gdx (x : Str) (b : ME)
 | idx (a b : ME)
 | rng (es : List ME) | enu (a : ME) | zp (a b : ME) | itm (a : ME) | rvs (a : ME)
inductive MS where
 | set (i : Nat) (own : Bool) (e : ME) | sett (is : List Nat) (e : ME) | par (is : List Nat) (es : List ME) | aug (i : Nat) (e : ME)
 | app (i : Nat) (e : ME) | ext (i : Nat) (e : ME) | seti (i : Nat) (k e : ME) | clr (i : Nat) | pop (i : Nat) (e : ME)
 | exp (e : ME) | ret (e : ME) | retn | iff (c : ME) (a b : List MS) | fo (tg : Tg) (it : ME) (body : List MS) | wh (c : ME) (body : List MS)
 | ret0 (es : List ME) | app0 (i : Nat) (e : ME)
 | rse (c : Str) (e : ME) | tryc (body : List MS) (c : Str) (ie ic : Nat) | pas
 | frz (i : Nat)
structure FD where
 n : Nat
 np : Nat
 dfl : List DV := []
 body : List MS
noncomputable def Re.thn (r : Option Re) (k : DV -> Cl -> Option Re) : Option Re := match r with
 | none => none
 | some (.ex c) => some (.ex c)
 | some (.ok d c) => k d c
noncomputable def Rs.thn (r : Option Rs) (k : List (DV × Cl) -> Option Re) : Option Re := match r with
 | none => none
 | some (.ex c) => some (.ex c)
 | some (.ok l) => k l
noncomputable def Rt.thn (r : Option Rt) (k : Bool -> Option Re) : Option Re := match r with
 | none => none
 | some (.ex c) => some (.ex c)
 | some (.ok b) => k b
noncomputable def Re.thnT (r : Option Re) (k : DV -> Cl -> Option Rt) : Option Rt := match r with
 | none => none
 | some (.ex c) => some (.ex c)
 | some (.ok d c) => k d c
mutual
noncomputable def DV.immut : DV -> Bool
 | .non => true | .bl _ => true | .int _ => true | .str _ => true | .exc _ => true | .fn _ => true | .scr _ => true
 | .tup ds => DV.immuts ds
 | .lst _ => false | .dct _ _ => false
noncomputable def DV.immuts : List DV -> Bool
 | [] => true
 | d :: r => d.immut && DV.immuts r
end
noncomputable def stro (d : DV) : Cl -> Bool
 | .strong => true | .fresh => true | .ft => true | _ => d.immut
noncomputable def stros (l : List (DV × Cl)) : Bool := l.all λ p => stro p.1 p.2
noncomputable def Cl.item : Cl -> Cl
 | .weak => .weak | _ => .strong
noncomputable def Cl.anew : Cl -> Cl -> Cl
 | .weak, _ => .weak | _, .weak => .weak | _, _ => .fresh
noncomputable def Cl.notF : Cl -> Cl
 | .fresh => .strong | c => c
noncomputable def mostLen : Nat := 1000000
mutual
noncomputable def deq : DV -> DV -> Bool
 | .non, .non => true
 | .bl a, .bl b => a == b
 | .bl a, .int j => (if a then 1 else 0) == j
 | .int i, .bl b => i == (if b then 1 else 0)
 | .int i, .int j => i == j
 | .str a, .str b => decide (a = b)
 | .tup a, .tup b => deqs a b
 | .lst a, .lst b => deqs a b
 | _, _ => false
noncomputable def deqs : List DV -> List DV -> Bool
 | [], [] => true
 | a :: r, b :: s => deq a b && deqs r s
 | _, _ => false
end
mutual
noncomputable def DV.plain : Nat -> DV -> Bool
 | _, .non => true | _, .bl _ => true | _, .int _ => true
 | _, .str x => x.cps.all (· < 0x110000)
 | 0, _ => false
 | n + 1, .tup ds => DV.plains n ds | n + 1, .lst ds => DV.plains n ds
 | _, _ => false
noncomputable def DV.plains : Nat -> List DV -> Bool
 | _, [] => true
 | n, d :: r => d.plain n && DV.plains n r
end
noncomputable def q2n : DV -> Option Bool
 | .non => some false
 | .bl b => some b
 | .int i => some (i != 0)
 | .str x => some (x.cps.size != 0)
 | .tup ds => some (!ds.isEmpty)
 | .lst ds => some (!ds.isEmpty)
 | .dct ks _ => some (!ks.isEmpty)
 | _ => none
noncomputable def q1g (n : Nat) (i : Int) : Option Nat := if 0 <= i then (if i < n then some i.toNat else none) else if -(n : Int) <= i then some (i + n).toNat else none
noncomputable def atD (ds : List DV) (i : Int) : Option DV := (q1g ds.length i).bind λ j => ds[j]?
noncomputable def keyL : List DV -> Option (List (Sum Int Str))
 | [] => some []
 | .int i :: r => (keyL r).map (Sum.inl i :: ·)
 | .str x :: r => (keyL r).map (Sum.inr x :: ·)
 | _ => none
noncomputable def z2q : DV -> Option DKey
 | .int i => some (.i i)
 | .str x => some (.s x)
 | .tup ds => (keyL ds).map DKey.t
 | _ => none
noncomputable def z0W (k : DKey) : List DKey -> List DV -> Option DV
 | k' :: ks, v :: vs => if k' = k then some v else z0W k ks vs
 | _, _ => none
noncomputable def ixD (a b : DV) : Option DV := match a, b with
 | .scr ns, .int i => ((q1g ns.length i).bind λ j => ns[j]?).map DV.int
 | .lst ds, .int i => atD ds i
 | .tup ds, .int i => atD ds i
 | .str z, .int i => (q1g z.cps.size i).bind λ j => (z.cps[j]?).map λ c => .str ⟨#[c]⟩
 | .dct ks vs, k => (z2q k).bind λ k => z0W k ks vs
 | _, _ => none
noncomputable def slIx (n d : Nat) : Option Int -> Nat
 | none => d
 | some v => if v < 0 then (v + (n : Int)).toNat else min v.toNat n
noncomputable def cutD (ds : List DV) (lo hi : Option Int) : List DV := (ds.drop (slIx ds.length 0 lo)).take (slIx ds.length ds.length hi - slIx ds.length 0 lo)
noncomputable def slD (a : DV) (lo hi : Option Int) : Option DV := match a with
 | .scr ns => some (.lst (cutD (ns.map DV.int) lo hi))
 | .lst ds => some (.lst (cutD ds lo hi))
 | .tup ds => if slIx ds.length 0 lo = 0 /\ slIx ds.length ds.length hi = ds.length then none else some (.tup (cutD ds lo hi))
 | _ => none
noncomputable def slCl (a : DV) (c : Cl) : Cl := match a with
 | .scr _ => .fresh
 | .lst _ => Cl.anew c c
 | _ => c.item
noncomputable def q3o (i j : Int) : Bool := (decide (-(2 ^ 64) < i) && decide (i < 2 ^ 64)) || (decide (-(2 ^ 64) < j) && decide (j < 2 ^ 64))
noncomputable def binD (op : Operator) (a b : DV) (ca cb : Cl) : Option Re := match op, a, b with
 | .Add, .int i, .int j => some (.ok (.int (i + j)) .strong)
 | .Sub, .int i, .int j => some (.ok (.int (i - j)) .strong)
 | .Mult, .int i, .int j => if q3o i j then some (.ok (.int (i * j)) .strong) else none
 | .Mod, .int i, .int j => if 0 < j then some (.ok (.int (i % j)) .strong) else none
 | .FloorDiv, .int i, .int j => if 0 < j /\ j < 1073741824 then some (.ok (.int (i / j)) .strong) else none
 | .LShift, .int i, .int j => if 0 <= j /\ j <= 1000000 /\ i.natAbs < 2 ^ 64 then some (.ok (.int (i * 2 ^ j.toNat)) .strong) else none
 | .RShift, .int i, .int j => if 0 <= j then some (.ok (.int (i / 2 ^ j.toNat)) .strong) else none
 | .BitAnd, .int i, .int j => some (.ok (.int (Builtin.bitAnd i j)) .strong)
 | .BitOr, .int i, .int j => some (.ok (.int (Builtin.bitOr i j)) .strong)
 | .BitXor, .int i, .int j => some (.ok (.int (Builtin.bitXor i j)) .strong)
 | .Add, .lst x, .lst y => if x.length + y.length <= mostLen then some (.ok (.lst (x ++ y)) (Cl.anew ca cb)) else none
 | .Add, .tup x, .tup y => if x.length + y.length <= mostLen /\ x ≠ [] then some (.ok (.tup (x ++ y)) (Cl.anew ca cb).notF) else none
 | .Mult, .lst x, .int k => if x.length * k.toNat <= mostLen /\ -(2 ^ 63) <= k /\ k < 2 ^ 63 then some (.ok (.lst (List.replicate k.toNat x).flatten) (Cl.anew ca ca)) else none
 | _, _, _ => none
noncomputable def isN : DV -> Bool
 | .non => true
 | _ => false
noncomputable def cmpD (op : CmpOp) (a b : DV) : Option Bool := match op, a, b with
 | .Lt, .int i, .int j => some (decide (i < j))
 | .LtE, .int i, .int j => some (decide (i <= j))
 | .Gt, .int i, .int j => some (decide (j < i))
 | .GtE, .int i, .int j => some (decide (j <= i))
 | .Eq, a, b => if a.plain 60 && b.plain 60 then some (deq a b) else none
 | .NotEq, a, b => if a.plain 60 && b.plain 60 then some (!deq a b) else none
 | .Is, a, .non => some (isN a)
 | .IsNot, a, .non => some (!isN a)
 | .In, a, .lst ds => if a.plain 60 && DV.plains 60 ds then some (ds.any λ d => deq d a) else none
 | .NotIn, a, .lst ds => if a.plain 60 && DV.plains 60 ds then some (!ds.any λ d => deq d a) else none
 | .In, a, .tup ds => if a.plain 60 && DV.plains 60 ds then some (ds.any λ d => deq d a) else none
 | .NotIn, a, .tup ds => if a.plain 60 && DV.plains 60 ds then some (!ds.any λ d => deq d a) else none
 | .In, a, .dct ks vs => (z2q a).map λ k => (z0W k ks vs).isSome
 | .NotIn, a, .dct ks vs => (z2q a).map λ k => !(z0W k ks vs).isSome
 | _, _, _ => none
noncomputable def ints? : List DV -> Option (List Int)
 | [] => some []
 | .int i :: r => (ints? r).map (i :: ·)
 | _ => none
noncomputable def minI : Int -> List Int -> Int
 | m, [] => m
 | m, x :: r => minI (if x < m then x else m) r
noncomputable def insI (x : Int) : List Int -> List Int
 | [] => [x]
 | y :: r => if x < y then x :: y :: r else y :: insI x r
noncomputable def q3m : List Int -> List Int
 | [] => []
 | x :: r => insI x (q3m r)
noncomputable def dk (σ : List Int) (k : Int) : List Int := if k ∈ σ then σ else σ ++ [k]
noncomputable def q6g (i : Int) : Int := if i = 0 then 0 else (i.natAbs.log2 : Int) + 1
noncomputable def lenD : List (DV × Cl) -> Option Re
 | [(.lst ds, _)] => some (.ok (.int ds.length) .strong)
 | [(.tup ds, _)] => some (.ok (.int ds.length) .strong)
 | [(.scr ns, _)] => some (.ok (.int ns.length) .strong)
 | [(.str z, _)] => some (.ok (.int z.length) .strong)
 | _ => none
noncomputable def minD : List (DV × Cl) -> Option Re
 | [(.int i, _), (.int j, _)] => some (.ok (.int (if j < i then j else i)) .strong)
 | [(.lst ds, _)] => match ints? ds with
  | some (n :: r) => some (.ok (.int (minI n r)) .strong)
  | _ => none
 | _ => none
noncomputable def z0G : List (DV × Cl) -> Option Re
 | [(.lst ds, _)] => match ints? ds with
  | some ns => if ns.length < 4000 /\ (ns.foldl dk []).length < 64 then some (.ok (.lst ((q3m (ns.foldl dk [])).map DV.int)) .fresh) else none
  | none => none
 | _ => none
noncomputable def intD : List (DV × Cl) -> Option Re
 | [(.int i, _)] => some (.ok (.int i) .strong)
 | [(.bl b, _)] => some (.ok (.int (if b then 1 else 0)) .strong)
 | _ => none
noncomputable def q9l : List (DV × Cl) -> Option Re
 | [(.scr ns, _)] => some (.ok (.lst (ns.map DV.int)) .fresh)
 | [(.lst ds, c)] => some (.ok (.lst ds) (Cl.anew c c))
 | [(.tup ds, c)] => some (.ok (.lst ds) (Cl.anew c c))
 | _ => none
noncomputable def q4P : List (DV × Cl) -> Option Re
 | [(.lst ds, c)] => some (.ok (.tup ds) c.item)
 | [(.tup ds, c)] => some (.ok (.tup ds) c)
 | _ => none
noncomputable def z0d : List (DV × Cl) -> Option Re
 | [(.int j, _)] => if decide (-(2 ^ 62) <= j) && decide (j <= mostLen) then some (.ok (.lst ((List.range j.toNat).map λ (i : Nat) => DV.int (0 + i))) .fresh) else none
 | _ => none
noncomputable def biD (f : Bi) (l : List (DV × Cl)) : Option Re := match f with
 | .len => lenD l
 | .min => minD l
 | .int => intD l
 | .list => q9l l
 | .tuple => q4P l
 | .sset => z0G l
 | .lrng => z0d l
 | _ => none
noncomputable def biOk : Bi -> Bool
 | .len => true | .min => true | .int => true | .list => true | .tuple => true | .sset => true | .lrng => true
 | _ => false
noncomputable def mtD (m : Mt) (a : DV) : Option Re := match m, a with
 | .bitLength, .int i => some (.ok (.int (q6g i)) .strong)
 | _, _ => none
structure Gs where
 dcs : List (Str × List (Str × Str)) := []
 con : List (Str × DV)
 cls : List (Str × List Str)
noncomputable def q2T (G : Gs) (c c' : Str) : Bool := c == c' || ((G.cls.lookup c).getD []).contains c'
noncomputable def gdxD (G : Gs) (x : Str) (d : DV) : Option DV := match G.dcs.lookup x, d with
 | some kvs, .str k => (kvs.lookup k).map DV.str
 | _, _ => none
noncomputable def tyOf : DV -> List Str
 | .non => ["NoneType"]
 | .bl _ => ["bool", "int"]
 | .int _ => ["int"]
 | .str _ => ["str"]
 | .tup _ => ["tuple"]
 | .lst _ => ["list"]
 | .dct _ _ => ["dict"]
 | _ => []
noncomputable def q2u : List Str := ["int", "bool", "str", "list", "tuple", "dict"]
noncomputable def isiD (G : Gs) (d : DV) (ts : List Str) : Option Bool := match d with
 | .scr _ => none
 | .exc _ => none
 | .dct _ _ => none
 | .fn _ => none
 | d => match ts with
  | [t] => if q2u.contains t then some ((tyOf d).contains t) else none
  | _ => none
noncomputable def upTo (lo : Int) (n : Nat) : List DV := (List.range n).map λ (i : Nat) => DV.int (lo + i)
noncomputable def q4M (lo : Int) (n : Nat) : List DV := (List.range n).map λ (i : Nat) => DV.int (lo - i)
noncomputable def q1s (i : Int) : Bool := decide (-(2 ^ 62) <= i) && decide (i < 2 ^ 62)
noncomputable def rngD (l : List (DV × Cl)) : Option (List DV) := match l with
 | [(.int j, _)] => if q1s j && decide (j <= mostLen) then some (upTo 0 j.toNat) else none
 | [(.int i, _), (.int j, _)] => if q1s i && q1s j && decide (j - i <= mostLen) then some (upTo i (j - i).toNat) else none
 | [(.int i, _), (.int j, _), (.int k, _)] => if q1s i && q1s j && decide (i - j <= mostLen) && decide (k = -1) then some (q4M i (i - j).toNat) else none
 | _ => none
noncomputable def enuD : Nat -> List DV -> List DV
 | _, [] => []
 | k, d :: r => .tup [.int k, d] :: enuD (k + 1) r
noncomputable def Cl.meet : Cl -> Cl -> Cl
 | .weak, _ => .weak | _, .weak => .weak | .top, _ => .top | _, .top => .top | _, _ => .strong
noncomputable def z5c : DV -> Option (Bool × List DV)
 | .lst ds => some (false, ds)
 | .tup ds => some (true, ds)
 | _ => none
noncomputable def q9g (x : DV) (c : Cl) : Option Re := match z5c x with
 | some (_, xs) => some (.ok (.lst (enuD 0 xs)) (Cl.meet c c))
 | _ => none
noncomputable def seqD : DV -> Option (List DV)
 | .scr ns => some (ns.map DV.int)
 | .lst ds => some ds
 | .tup ds => some ds
 | _ => none
noncomputable def q4A (δ : List Sv) : List Nat -> List DV -> Option (List Sv)
 | [], [] => some δ
 | i :: is, d :: ds => q4A (δ.set i (.val d)) is ds
 | _, _ => none
noncomputable def Tg.bind (tg : Tg) (d : DV) (δ : List Sv) : Option (List Sv) := match tg with
 | .one i => some (δ.set i (.val d))
 | .many is => match d with
  | .tup ds => q4A δ is ds
  | _ => none
noncomputable def Sv.plain : Sv -> Sv
 | .ot _ => .no
 | s => s
noncomputable def q0R (fr : List (Option Nat)) (δ : List Sv) : List Sv := fr.map λ o => match o with
 | some i => (δ.getD i .no).plain
 | none => .no
inductive Rc where
 | skip | item (d : DV)
noncomputable def q0X (g : DV -> Option Rc) : List DV -> Option (List DV)
 | [] => some []
 | d :: r => match g d with
  | none => none
  | some .skip => q0X g r
  | some (.item x) => match q0X g r with
   | none => none
   | some xs => some (x :: xs)
noncomputable def q1z (r : Option (List DV)) : Option Re := match r with
 | none => none
 | some xs => some (.ok (.lst xs) .fresh)
noncomputable def Rc.of (r : Option Re) : Option Rc := match r with
 | some (.ok d c) => if stro d c then some (.item d) else none
 | _ => none
noncomputable def Rc.test (t : Option Rt) (r : Option Rc) : Option Rc := match t with
 | some (.ok true) => r
 | some (.ok false) => some .skip
 | _ => none
inductive Ri where
 | ok (ds : List DV) (c : Cl) | ex (c : Str)
noncomputable def Ri.thn (r : Option Ri) (k : List DV -> Cl -> Option Re) : Option Re := match r with
 | none => none
 | some (.ex c) => some (.ex c)
 | some (.ok ds c) => k ds c
noncomputable def Re.thnI (r : Option Re) (k : DV -> Cl -> Option Ri) : Option Ri := match r with
 | none => none
 | some (.ex c) => some (.ex c)
 | some (.ok d c) => k d c
noncomputable def z6D (d : DV) (c : Cl) : Option Ri := (seqD d).map λ ds => .ok ds c
noncomputable def q4x (F : Nat -> List DV -> Option Ou) (f : Nat) (l : List (DV × Cl)) : Option Re := match F f (l.map (·.1)) with
 | none => none
 | some (.x c) => some (.ex c)
 | some (.t d) => some (.ok d (if l.all λ p => p.2 == .strong || p.2 == .fresh then .ft else .weak))
 | some (.v d fr) => some (.ok d (if l.all λ p => p.2 == .strong || p.2 == .fresh then (if fr then .fresh else .strong) else .weak))
noncomputable def andD (x : DV) (c : Cl) (r : Option Re) : Option Re := match q2n x with
 | none => none
 | some true => r
 | some false => some (.ok x c)
noncomputable def orD (x : DV) (c : Cl) (r : Option Re) : Option Re := match q2n x with
 | none => none
 | some true => some (.ok x c)
 | some false => r
noncomputable def tstD (r : Option Re) : Option Rt := Re.thnT r λ x _ => (q2n x).map Rt.ok
noncomputable def q1b (r : Option Re) : Option Ri := Re.thnI r λ x c => z6D x c
mutual
noncomputable def evE (G : Gs) (F : Nat -> List DV -> Option Ou) : ME -> List Sv -> Option Re
 | .var i, δ => match δ[i]? with
  | some (.val d) => some (.ok d .strong)
  | some (.own d) => some (.ok d .top)
  | some (.ot d) => some (.ok d .weak)
  | _ => none
 | .int i, _ => some (.ok (.int i) .strong)
 | .bl i, _ => some (.ok (.bl i) .strong)
 | .str i, _ => some (.ok (.str i) .strong)
 | .non, _ => some (.ok .non .strong)
 | .glb x, _ => (G.con.lookup x).map λ d => .ok d .strong
 | .bin op a b, δ => Re.thn (evE G F a δ) λ x cx => Re.thn (evE G F b δ) λ y cy => binD op x y cx cy
 | .neg a, δ => Re.thn (evE G F a δ) λ x _ => match x with | .int i => some (.ok (.int (-i)) .strong) | _ => none
 | .inv _, _ => none
 | .not a, δ => Re.thn (evE G F a δ) λ x _ => (q2n x).map λ k => .ok (.bl (!k)) .strong
 | .cmp op a b, δ => Re.thn (evE G F a δ) λ x _ => Re.thn (evE G F b δ) λ y _ => (cmpD op x y).map λ k => .ok (.bl k) .strong
 | .chain op op' a b c, δ => Re.thn (evE G F a δ) λ x _ => Re.thn (evE G F b δ) λ y _ => match cmpD op x y with
  | none => none
  | some false => some (.ok (.bl false) .strong)
  | some true => Re.thn (evE G F c δ) λ z _ => (cmpD op' y z).map λ k => .ok (.bl k) .strong
 | .and es, δ => q2p G F es δ
 | .or es, δ => evOr G F es δ
 | .ite c a b, δ => Rt.thn (tstD (evE G F c δ)) λ k => if k then evE G F a δ else evE G F b δ
 | .lst es, δ => Rs.thn (evEs G F es δ) λ l => if l.length <= mostLen then some (.ok (.lst (l.map (·.1))) (if stros l then .fresh else .weak)) else none
 | .tup es, δ => Rs.thn (evEs G F es δ) λ l => if l.length <= mostLen then some (.ok (.tup (l.map (·.1))) (if stros l then .strong else .weak)) else none
 | .dct _ _, _ => none
 | .ix a b, δ => Re.thn (evE G F a δ) λ x cx => Re.thn (evE G F b δ) λ y _ => (ixD x y).map λ d => .ok d cx.item
 | .sl a lo hi, δ => Re.thn (evE G F a δ) λ x cx => Re.thn (evE G F lo δ) λ l _ => match l with
  | .int l => Re.thn (evE G F hi δ) λ h _ => (match h with
   | .int h => (slD x (some l) (some h)).map λ d => .ok d (slCl x cx)
   | _ => none)
  | _ => none
 | .slf a lo, δ => Re.thn (evE G F a δ) λ x cx => Re.thn (evE G F lo δ) λ l _ => match l with
  | .int l => (slD x (some l) none).map λ d => .ok d (slCl x cx)
  | _ => none
 | .slt a hi, δ => Re.thn (evE G F a δ) λ x cx => Re.thn (evE G F hi δ) λ h _ => match h with
  | .int h => (slD x none (some h)).map λ d => .ok d (slCl x cx)
  | _ => none
 | .call f es, δ => Rs.thn (evEs G F es δ) λ l => q4x F f l
 | .bi f es, δ => if biOk f then Rs.thn (evEs G F es δ) λ l => biD f l else none
 | .isi a ts, δ => Re.thn (evE G F a δ) λ x _ => (isiD G x ts).map λ k => .ok (.bl k) .strong
 | .isx _ _, _ => none
 | .meth m a _, δ => if m = .bitLength then Re.thn (evE G F a δ) λ x _ => mtD m x else none
 | .comp elt tg it fr, δ => Ri.thn (q1b (evE G F it δ)) λ ds c => if c = .weak \/ mostLen < ds.length then none else q1z (q0X (λ d => (tg.bind d (q0R fr δ)).bind λ δ' => Rc.of (evE G F elt δ')) ds)
 | .compi elt tg it cd fr, δ => Ri.thn (q1b (evE G F it δ)) λ ds c => if c = .weak \/ mostLen < ds.length then none else q1z (q0X (λ d => (tg.bind d (q0R fr δ)).bind λ δ' => Rc.test (tstD (evE G F cd δ')) (Rc.of (evE G F elt δ'))) ds)
 | .gdx x b, δ => if (G.dcs.lookup x).isSome then Re.thn (evE G F b δ) λ y _ => (gdxD G x y).map λ d => .ok d .strong else none
 | .idx _ _, _ => none
 | .rng es, δ => Rs.thn (evEs G F es δ) λ l => (rngD l).map λ ds => .ok (.lst ds) .fresh
 | .zp _ _, _ => none
 | .enu a, δ => Re.thn (evE G F a δ) λ x c => q9g x c
 | .itm _, _ => none
 | .rvs _, _ => none
noncomputable def evEs (G : Gs) (F : Nat -> List DV -> Option Ou) : List ME -> List Sv -> Option Rs
 | [], _ => some (.ok [])
 | e :: es, δ => match evE G F e δ with
  | none => none
  | some (.ex c) => some (.ex c)
  | some (.ok d c) => match evEs G F es δ with
   | none => none
   | some (.ex c) => some (.ex c)
   | some (.ok l) => some (.ok ((d, c) :: l))
noncomputable def q2p (G : Gs) (F : Nat -> List DV -> Option Ou) : List ME -> List Sv -> Option Re
 | [], _ => none
 | e :: es, δ => if es.isEmpty then evE G F e δ else Re.thn (evE G F e δ) λ x c => andD x c (q2p G F es δ)
noncomputable def evOr (G : Gs) (F : Nat -> List DV -> Option Ou) : List ME -> List Sv -> Option Re
 | [], _ => none
 | e :: es, δ => if es.isEmpty then evE G F e δ else Re.thn (evE G F e δ) λ x c => orD x c (evOr G F es δ)
end
noncomputable def Re.thnS (δ : List Sv) (r : Option Re) (k : DV -> Cl -> Option Out) : Option Out := match r with
 | none => none
 | some (.ex c) => some (.ex c δ)
 | some (.ok d c) => k d c
noncomputable def Rs.thnS (δ : List Sv) (r : Option Rs) (k : List (DV × Cl) -> Option Out) : Option Out := match r with
 | none => none
 | some (.ex c) => some (.ex c δ)
 | some (.ok l) => k l
noncomputable def Rt.thnS (δ : List Sv) (r : Option Rt) (k : Bool -> Option Out) : Option Out := match r with
 | none => none
 | some (.ex c) => some (.ex c δ)
 | some (.ok b) => k b
noncomputable def Ri.thnS (δ : List Sv) (r : Option Ri) (k : List DV -> Cl -> Option Out) : Option Out := match r with
 | none => none
 | some (.ex c) => some (.ex c δ)
 | some (.ok ds c) => k ds c
noncomputable def q1q (tg : Tg) (body : List Sv -> Option Out) : List DV -> List Sv -> Option Out
 | [], δ => some (.nx δ)
 | d :: r, δ => match tg.bind d δ with
  | none => none
  | some δ1 => match body δ1 with
   | some (.nx δ2) => q1q tg body r δ2
   | o => o
noncomputable def q1l (test : List Sv -> Option Rt) (body : List Sv -> Option Out) : Nat -> List Sv -> Option Out
 | 0, _ => none
 | n + 1, δ => match test δ with
  | none => none
  | some (.ex c) => some (.ex c δ)
  | some (.ok false) => some (.nx δ)
  | some (.ok true) => match body δ with
   | some (.nx δ2) => q1l test body n δ2
   | o => o
noncomputable def frD : DV -> Cl -> Bool
 | .lst _, .fresh => true | .lst _, .top => true | .dct _ _, .fresh => true | .dct _ _, .top => true
 | _, _ => false
noncomputable def noOt (i : Nat) (δ : List Sv) : Bool := (List.range δ.length).all λ j => j == i || (match δ[j]? with | some (.ot _) => false | _ => true)
noncomputable def q4d (i : Nat) (δ : List Sv) (d : DV) (c : Cl) : Option Out := match c with
 | .fresh => some (.nx (δ.set i (.own d)))
 | .ft => if noOt i δ then some (.nx (δ.set i (.ot d))) else none
 | _ => none
noncomputable def retD (d : DV) (c : Cl) : Out := match c with
 | .ft => .rtt d
 | _ => .rt d (frD d c)
noncomputable def q9o (l : List (DV × Cl)) : Option Out := match l with
 | (.lst ds, .top) :: l' => if l'.length < mostLen /\ stros l' then some (.rtt (.tup (.lst ds :: l'.map (·.1)))) else none
 | _ => none
mutual
noncomputable def evS (G : Gs) (F : Nat -> List DV -> Option Ou) (fu : Nat) : MS -> List Sv -> Option Out
 | .set i own e, δ => Re.thnS δ (evE G F e δ) λ d c => if own then q4d i δ d c else (if stro d c then some (.nx (δ.set i (.val d))) else none)
 | .sett _ _, _ => none
 | .par _ _, _ => none
 | .aug _ _, _ => none
 | .app i e, δ => match δ[i]? with
  | some (.own (.lst ds)) => Re.thnS δ (evE G F e δ) λ d c => if stro d c /\ ds.length < mostLen then some (.nx (δ.set i (.own (.lst (ds ++ [d]))))) else none
  | _ => none
 | .ext _ _, _ => none
 | .seti i k e, δ => match δ[i]? with
  | some (.own (.lst ds)) => Re.thnS δ (evE G F e δ) λ d c => Re.thnS δ (evE G F k δ) λ k _ => (match k with
   | .int k => (match q1g ds.length k with
    | some j => if stro d c then some (.nx (δ.set i (.own (.lst (ds.set j d))))) else none
    | none => none)
   | _ => none)
  | _ => none
 | .clr _, _ => none
 | .pop _ _, _ => none
 | .exp e, δ => Re.thnS δ (evE G F e δ) λ _ _ => some (.nx δ)
 | .ret e, δ => Re.thnS δ (evE G F e δ) λ d c => some (retD d c)
 | .ret0 es, δ => Rs.thnS δ (evEs G F es δ) λ l => q9o l
 | .app0 _ _, _ => none
 | .retn, _ => some (.rt .non false)
 | .iff c a b, δ => Rt.thnS δ (tstD (evE G F c δ)) λ k => if k then evSs G F fu a δ else evSs G F fu b δ
 | .fo tg it body, δ => Ri.thnS δ (q1b (evE G F it δ)) λ ds c => if c = .strong \/ c = .fresh then q1q tg (λ δ' => evSs G F fu body δ') ds δ else none
 | .wh c body, δ => q1l (λ δ' => tstD (evE G F c δ')) (λ δ' => evSs G F fu body δ') fu δ
 | .rse c e, δ => if (G.cls.lookup c).isSome then Re.thnS δ (evE G F e δ) λ _ _ => some (.ex c δ) else none
 | .tryc _ _ _ _, _ => none
 | .pas, δ => some (.nx δ)
 | .frz i, δ => match δ[i]? with
  | some (.own d) => some (.nx (δ.set i (.val d)))
  | _ => some (.nx δ)
noncomputable def evSs (G : Gs) (F : Nat -> List DV -> Option Ou) (fu : Nat) : List MS -> List Sv -> Option Out
 | [], δ => some (.nx δ)
 | s :: r, δ => match evS G F fu s δ with
  | some (.nx δ') => evSs G F fu r δ'
  | o => o
end
noncomputable def q0i (n : Nat) (ds : List DV) : List Sv := ds.map Sv.val ++ List.replicate (n - ds.length) .no
noncomputable def Ou.of (o : Option Out) : Option Ou := match o with
 | some (.nx _) => some (.v .non false)
 | some (.rt d fr) => some (.v d fr)
 | some (.rtt d) => some (.t d)
 | some (.ex c _) => some (.x c)
 | none => none
noncomputable def run (G : Gs) (T : List FD) (fu : Nat) : Nat -> Nat -> List DV -> Option Ou
 | 0, _, _ => none
 | k + 1, f, ds => match T[f]? with
  | none => none
  | some fd => if ds.length = fd.np then Ou.of (evSs G (run G T fu k) fu fd.body (q0i fd.n ds)) else none
end L2
end
section
namespace L2
open PySem
noncomputable def Rise (xs : Array Nat) : Prop := ∀ (i k x y : Nat), i < k -> xs[i]? = some x -> xs[k]? = some y -> x < y
theorem q6W {xs : Array Nat} {j : Nat} (hr : Rise xs) : ∀ (fuel lo hi : Nat), lo <= hi -> hi <= xs.size -> hi - lo <= fuel ->
  (∀ i x, i < lo -> xs[i]? = some x -> x < j) -> (∀ i x, hi <= i -> xs[i]? = some x -> j <= x) ->
  (∀ i x, i < SetTable.below.go xs j fuel lo hi -> xs[i]? = some x -> x < j) /\ (∀ i x, SetTable.below.go xs j fuel lo hi <= i -> xs[i]? = some x -> j <= x) := by
 intro fuel
 induction fuel with
 | zero =>
  intro lo hi h1 h2 h3 h4 h5
  have : lo = hi := by omega
  subst this
  exact ⟨h4, h5⟩
 | succ n ih =>
  intro lo hi h1 h2 h3 h4 h5
  unfold SetTable.below.go
  by_cases hlt : lo < hi
  ·rw [if_pos hlt]
   have hm : (lo + hi) / 2 < hi := by omega
   have hm2 : lo <= (lo + hi) / 2 := by omega
   have hms : (lo + hi) / 2 < xs.size := by omega
   have hg : xs[(lo + hi) / 2]? = some xs[(lo + hi) / 2] := Array.getElem?_eq_getElem hms
   have hgd : xs.getD ((lo + hi) / 2) j = xs[(lo + hi) / 2] := by
    rw [Array.getD_eq_getD_getElem?, hg]; rfl
   dsimp only
   rw [hgd]
   by_cases hc : xs[(lo + hi) / 2] < j
   ·rw [if_pos hc]
    refine ih _ _ (by omega) h2 (by omega) (λ i x hi' hx => ?_) h5
    rcases Nat.lt_or_ge i ((lo + hi) / 2) with q | q
    ·exact Nat.lt_trans (hr i _ x _ q hx hg) hc
    ·have e : i = (lo + hi) / 2 := by omega
     subst e
     rw [hg] at hx
     cases hx
     exact hc
   ·rw [if_neg hc]
    refine ih _ _ hm2 (by omega) (by omega) h4 λ i x hi' hx => ?_
    rcases Nat.lt_or_ge ((lo + hi) / 2) i with q | q
    ·exact Nat.le_trans (Nat.le_of_not_lt hc) (Nat.le_of_lt (hr _ i _ x q hg hx))
    ·have e : i = (lo + hi) / 2 := by omega
     subst e
     rw [hg] at hx
     cases hx
     exact Nat.le_of_not_lt hc
  ·rw [if_neg hlt]
   have : lo = hi := by omega
   subst this
   exact ⟨h4, h5⟩
theorem q5n {xs : Array Nat} (hr : Rise xs) {j i x : Nat} (h : i < SetTable.below xs j) (hx : xs[i]? = some x) : x < j :=
 (q6W (j := j) hr xs.size 0 xs.size (Nat.zero_le _) (Nat.le_refl _) (by omega) (λ i x h => by omega) λ i x h hx => by
  rw [Array.getElem?_eq_none h] at hx; cases hx).1 i x h hx
theorem q3T {xs : Array Nat} (hr : Rise xs) {j i x : Nat} (h : SetTable.below xs j <= i) (hx : xs[i]? = some x) : j <= x :=
 (q6W (j := j) hr xs.size 0 xs.size (Nat.zero_le _) (Nat.le_refl _) (by omega) (λ i x h => by omega) λ i x h hx => by
  rw [Array.getElem?_eq_none h] at hx; cases hx).2 i x h hx
theorem q6B {xs : Array Nat} {j : Nat} : ∀ (fuel lo hi : Nat), lo <= hi -> SetTable.below.go xs j fuel lo hi <= hi := by
 intro fuel
 induction fuel with
 | zero => intro lo hi h; exact h
 | succ n ih =>
  intro lo hi h
  unfold SetTable.below.go
  dsimp only
  split
  ·split
   ·exact ih _ _ (by omega)
   ·exact Nat.le_trans (ih _ _ (by omega)) (by omega)
  ·exact h
theorem q7q {xs : Array Nat} {j : Nat} : SetTable.below xs j <= xs.size := q6B _ _ _ (Nat.zero_le _)
theorem q7S {xs : Array Nat} (hr : Rise xs) {i x : Nat} (hx : xs[i]? = some x) : SetTable.below xs (x + 1) = i + 1 := by
 have hi : i < xs.size := by
  rcases Nat.lt_or_ge i xs.size with h | h
  ·exact h
  ·rw [Array.getElem?_eq_none h] at hx; cases hx
 rcases Nat.lt_trichotomy (SetTable.below xs (x + 1)) (i + 1) with h | h | h
 ·have := q3T hr (j := x + 1) (Nat.le_of_lt_succ h) hx
  omega
 ·exact h
 ·have h2 : SetTable.below xs (x + 1) <= xs.size := q7q
  have h3 : i + 1 < xs.size := by omega
  have hy : xs[i + 1]? = some xs[i + 1] := Array.getElem?_eq_getElem h3
  have a := q5n hr (j := x + 1) h hy
  have b := hr i (i + 1) x _ (Nat.lt_succ_self _) hx hy
  omega
theorem q7P {xs : Array Nat} (hr : Rise xs) : SetTable.below xs 0 = 0 := by
 rcases Nat.eq_zero_or_pos (SetTable.below xs 0) with h | h
 ·exact h
 ·have h2 : SetTable.below xs 0 <= xs.size := q7q
  have h3 : 0 < xs.size := by omega
  have hy : xs[0]? = some xs[0] := Array.getElem?_eq_getElem h3
  have a := q5n hr (j := 0) h hy
  omega
theorem Rise.empty : Rise #[] := λ i k x y _ hx => by simp at hx
theorem Rise.range (n : Nat) : Rise (Array.range n) := λ i k x y h hx hy => by
 rw [Array.getElem?_range] at hx hy
 split at hx
 ·split at hy
  ·cases hx; cases hy; exact h
  ·cases hy
 ·cases hx
theorem q5U {l : List Nat} (h : l.Pairwise (· < ·)) : Rise l.toArray := λ i k x y hik hx hy => by
 have hx' : l[i]? = some x := by simpa using hx
 have hy' : l[k]? = some y := by simpa using hy
 obtain ⟨hi, ei⟩ := List.getElem?_eq_some_iff.mp hx'
 obtain ⟨hk, ek⟩ := List.getElem?_eq_some_iff.mp hy'
 rw [← ei, ← ek]
 exact List.pairwise_iff_getElem.mp h i k hi hk hik
theorem z2H {xs : Array Nat} (h : Rise xs) : xs.toList.Pairwise (· < ·) := by
 refine List.pairwise_iff_getElem.mpr λ i k hi hk hik => ?_
 exact h i k _ _ hik (by rw [← Array.getElem?_toList]; exact List.getElem?_eq_getElem hi) (by rw [← Array.getElem?_toList]; exact List.getElem?_eq_getElem hk)
structure Tab (t : SetTable) (b : Bool) : Prop where
 rise : Rise t.place
 dum : t.dummies = #[]
 led : t.led = b
theorem Tab.fresh (b : Bool) : Tab (SetTable.fresh 0 0 b) b := ⟨Rise.empty, rfl, rfl⟩
theorem Tab.standIn {t : SetTable} {b : Bool} (h : Tab t b) (n : Nat) : Tab (t.standIn n) b := ⟨Rise.range n, rfl, h.led⟩
theorem q6f (j : Nat) : SetTable.has #[] j = false := by
 unfold SetTable.has; simp
theorem z0n {t : SetTable} {b : Bool} (h : Tab t b) (f : Nat -> Int) (z : Int) : ∀ (fuel : Nat) (p : SetTable.Probe) (j : Nat) (d : Option Nat), p.dummy = none -> SetTable.probe.go t f z fuel p = some (.empty j d) -> d = none /\ t.slot j = .empty := by
 intro fuel
 induction fuel with
 | zero => intro p j d hp e; cases e
 | succ n ih =>
  intro p j d hp e
  unfold SetTable.probe.go at e
  cases hs : t.slot p.j with
  | empty => rw [hs] at e; cases e; exact ⟨hp, hs⟩
  | dummy =>
   unfold SetTable.slot at hs
   rw [h.dum, q6f] at hs
   dsimp only at hs
   split at hs
   ·cases hs
   ·cases hs
  | live i =>
   rw [hs] at e
   dsimp only at e
   split at e
   ·cases e
   ·refine ih _ j d ?_ e
    unfold SetTable.advance
    split
    ·exact hp
    ·exact hp
theorem q4w {t : SetTable} {b : Bool} (h : Tab t b) {z : Int} {j : Nat} {w : Bool} (e : t.freeSlot z = some (j, w)) : t.slot j = .empty := by
 unfold SetTable.freeSlot at e
 split at e
 ·rename_i j' d hp
  obtain ⟨hd, hs⟩ := z0n h _ _ _ _ _ _ rfl hp
  subst hd
  cases e
  exact hs
 ·cases e
theorem Tab.put {t : SetTable} {b : Bool} (h : Tab t b) {j : Nat} (hs : t.slot j = .empty) : Tab (t.put j).1 b := by
 have hn : t.place[SetTable.below t.place j]? ≠ some j := λ z => by
  unfold SetTable.slot at hs
  dsimp only at hs
  rw [z] at hs
  simp at hs
 refine ⟨?_, ?_, h.led⟩
 ·show Rise (SetTable.insertAt t.place (SetTable.below t.place j) j)
  have e : (SetTable.insertAt t.place (SetTable.below t.place j) j).toList = _ := SetTable.toList_insertAt _ _ _
  have pw := z2H h.rise
  have : (SetTable.insertAt t.place (SetTable.below t.place j) j).toList.Pairwise (· < ·) := by
   rw [e, List.pairwise_append]
   refine ⟨pw.sublist (List.take_sublist _ _), List.pairwise_cons.mpr ⟨λ y hy => ?_, pw.sublist (List.drop_sublist _ _)⟩, λ x hx y hy => ?_⟩
   ·obtain ⟨i, hi⟩ := List.mem_iff_getElem?.mp hy
    rw [List.getElem?_drop, Array.getElem?_toList] at hi
    rcases Nat.lt_or_eq_of_le (q3T h.rise (j := j) (Nat.le_add_right _ _) hi) with q | q
    ·exact q
    ·exfalso
     subst q
     rcases Nat.eq_zero_or_pos i with z | z
     ·subst z; exact hn hi
     ·have hb : SetTable.below t.place j < t.place.size := by
       rcases Nat.lt_or_ge (SetTable.below t.place j + i) t.place.size with q | q
       ·omega
       ·rw [Array.getElem?_eq_none q] at hi; cases hi
      have hg : t.place[SetTable.below t.place j]? = some t.place[SetTable.below t.place j] := Array.getElem?_eq_getElem hb
      have a := q3T h.rise (j := j) (Nat.le_refl _) hg
      have c := h.rise _ _ _ _ (show SetTable.below t.place j < SetTable.below t.place j + i by omega) hg hi
      omega
   ·have hx' : x < j := by
     obtain ⟨i, hi⟩ := List.mem_iff_getElem?.mp hx
     rw [List.getElem?_take] at hi
     split at hi
     ·rw [Array.getElem?_toList] at hi
      exact q5n h.rise (by assumption) hi
     ·cases hi
    rcases List.mem_cons.mp hy with q | q
    ·rw [q]; exact hx'
    ·obtain ⟨i, hi⟩ := List.mem_iff_getElem?.mp q
     rw [List.getElem?_drop, Array.getElem?_toList] at hi
     exact Nat.lt_of_lt_of_le hx' (q3T h.rise (j := j) (Nat.le_add_right _ _) hi)
  have r := q5U this
  rwa [Array.toArray_toList] at r
 ·show (if SetTable.has t.dummies j then _ else t.dummies) = #[]
  rw [h.dum, q6f]
  rfl
theorem Tab.orStandIn {t : SetTable} {b : Bool} (h : Tab t b) (n : Nat) : Tab (t.orStandIn n) b := by
 unfold SetTable.orStandIn
 split
 ·exact h
 ·exact h.standIn n
theorem Tab.layNew {t : SetTable} {b : Bool} (h : Tab t b) (es : Array (Int × Value)) (z : Int) (x : Value) : Tab (layNew t es z x).2.1 b := by
 unfold PySem.layNew
 split
 ·rename_i j w e
  exact (h.put (q4w h e)).orStandIn _
 ·exact h.standIn _
theorem q1p {f : Nat -> Option Nat} : ∀ {l : List Nat}, l.Pairwise (· < ·) -> ((l.filterMap λ j => (f j).map (j, ·)).map (·.1)).Pairwise (· < ·)
 | [], _ => .nil
 | a :: l, h => by
  obtain ⟨h1, h2⟩ := List.pairwise_cons.mp h
  have ih := q1p (f := f) h2
  rw [List.filterMap_cons]
  cases e : f a with
  | none => exact ih
  | some c =>
   refine List.pairwise_cons.mpr ⟨λ y hy => ?_, ih⟩
   obtain ⟨p, hp, rfl⟩ := List.mem_map.mp hy
   obtain ⟨j, hj, e2⟩ := List.mem_filterMap.mp hp
   cases e3 : f j with
   | none => rw [e3] at e2; cases e2
   | some c2 => rw [e3] at e2; cases e2; exact h1 j hj
theorem Tab.relayAll {t : SetTable} {b : Bool} (h : Tab t b) (es : Array (Int × Value)) (n : Nat) : Tab (relayAll t es n).2.1 b := by
 unfold PySem.relayAll
 split
 ·rename_i t' order e
  dsimp only
  split
  ·show Tab t' b
   unfold SetTable.relaid SetTable.laid at e
   cases hl : SetTable.layClean (SetTable.sizeAbove n - 1) (es.map (·.1)) with
   | none => rw [hl] at e; cases e
   | some owner =>
    rw [hl] at e
    cases e
    exact ⟨q5U (q1p (List.pairwise_lt_range)), rfl, h.led⟩
  ·exact h.standIn _
 ·exact h.standIn _
theorem q3q {α : Type} {x : α} : ∀ {l : List α} {i : Nat} (h : i < l.length), l[i] = x -> (x :: l.eraseIdx i).Perm l
 | [], i, h, _ => by cases h
 | a :: l, 0, _, e => by
  have e : a = x := e
  subst e
  exact .rfl
 | a :: l, i + 1, h, e => by
  rw [List.eraseIdx_cons_succ]
  exact (List.Perm.swap a x _).trans (List.Perm.cons a (q3q (l := l) (i := i) (by simpa using h) (by simpa using e)))
theorem q5V {α : Type} (next : Nat -> Nat) : ∀ (fuel k : Nat) (left : List α) (out : Array α), left.length <= fuel -> (pickOrder.go next fuel k left out).toList.Perm (out.toList ++ left) := by
 intro fuel
 induction fuel with
 | zero =>
  intro k left out h
  have : left = [] := List.length_eq_zero_iff.mp (by omega)
  subst this
  unfold pickOrder.go
  rw [List.append_nil]
 | succ n ih =>
  intro k left out h
  unfold pickOrder.go
  cases e : left[next k % left.length]? with
  | none =>
   dsimp only
   have : left = [] := by
    cases left with
    | nil => rfl
    | cons a r =>
     have hlt : next k % (a :: r).length < (a :: r).length := Nat.mod_lt _ (by simp)
     rw [List.getElem?_eq_getElem hlt] at e
     cases e
   subst this
   rw [List.append_nil]
  | some x =>
   dsimp only
   obtain ⟨hlt, hx⟩ := List.getElem?_eq_some_iff.mp e
   have hle : (left.eraseIdx (next k % left.length)).length <= n := by
    rw [List.length_eraseIdx, if_pos hlt]; omega
   refine (ih _ _ _ hle).trans ?_
   rw [Array.toList_push, List.append_assoc]
   refine List.Perm.append_left _ ?_
   exact q3q hlt hx
theorem q2N {α : Type} (next : Nat -> Nat) (xs : Array α) : (pickOrder next xs).toList.Perm xs.toList := by
 unfold pickOrder
 exact (q5V next xs.size 0 xs.toList #[] (by simp)).trans (by simp)
end L2
end
section
namespace L2
open PySem
noncomputable def q3n : Value -> Int
 | .int n _ => n
 | _ => 0
noncomputable def q0H (w : World) : Bool := w.params.followText "set-order"
noncomputable def SetI (prog : Program) (w : World) (h : Heap) (a : Addr) (ks : List Int) : Prop :=
 ∃ o es ep t, h.get? a = some o /\ o.ExactSet /\ o.data = .set es ep t /\ ElemsOf (intKind prog w) es.toList /\ (es.toList.map λ e => q3n e.2).Perm ks /\ es.size < scanBound /\ t.fits es.size = true /\ Tab t (!q0H w)
section
variable {prog : Program} {w : World} {A : Around} {E : Value -> Shared -> Prop} {s : Shared} {a : Addr} {ks : List Int}
theorem q7g {es : List (Int × Value)} (h : ElemsOf (intKind prog w) es) {e : Int × Value} (he : e ∈ es) : ∃ t, e.2 = .int (q3n e.2) t := by
 obtain ⟨⟨k, hk, _⟩, _⟩ := h e he
 obtain ⟨t, q⟩ := Value.isInt_shape hk
 exact ⟨t, by rw [q]; rfl⟩
theorem q9F {es : List (Int × Value)} (h : ElemsOf (intKind prog w) es) {e : Int × Value} (he : e ∈ es) (k : Int) : (intKind prog w).is k e.2 = true ↔ q3n e.2 = k := by
 obtain ⟨t, q⟩ := q7g h he
 rw [q]
 show Value.isInt k (.int (q3n e.2) t) = true ↔ _
 simp [Value.isInt, q3n]
theorem SetI.at {h h' : Heap} (x : SetI prog w h a ks) (k : ∀ o, h.get? a = some o -> h'.get? a = some o) : SetI prog w h' a ks := by
 obtain ⟨o, es, ep, t, ho, r⟩ := x
 exact ⟨o, es, ep, t, k o ho, r⟩
theorem z1J {h : Heap} {o : Obj} {es es' : Array (Int × Value)} {ep : Nat} {t t' : SetTable} (ho : h.get? a = some o) (hd : o.data = .set es ep t) :
  (h.update a (Obj.putSet es' t')).get? a = some { o with data := .set es' (ep + 1) t' } := by
 have q := Heap.get?_update_self (Obj.putSet es' t') ho (by rw [putSet_of es' t' hd]; rfl)
 rwa [putSet_of es' t' hd] at q
theorem z2L {k : Int} {tk : Tok} {Q : Option Bool -> Shared -> Prop} {o : Obj} {es : Array (Int × Value)} {ep : Nat} {t : SetTable} (ho : s.heap.get? a = some o) (hx : o.ExactSet) (hd : o.data = .set es ep t)
  (hel : ElemsOf (intKind prog w) es.toList) (hp : (es.toList.map λ e => q3n e.2).Perm ks) (hb : es.size + 1 < scanBound) (ht : Tab t (!q0H w))
  {es1 : Array (Int × Value)} {t1 : SetTable} (p1 : es1.toList.Perm (es.toList ++ [(hashInt k, Value.int k tk)])) (f1 : t1.fits es1.size = true) (g1 : Tab t1 (!q0H w)) (wd : Bool) {g : Bool -> Sem Unit}
  (hg : ∀ (b : Bool) (s₁ : Shared) (Q' : Unit -> Shared -> Prop), Q' () s₁ -> wpAny (model prog w) A (g b) Q' E s₁)
  (h : ∀ h', Heap.SameBut a s.heap h' -> SetI prog w h' a (ks ++ [k]) -> Q (some true) { s with heap := h' }) :
  wpAny (model prog w) A (do
   storeSet a es1 t1
   if (!wd && t1.tooFull) = true then do
    g (relayAll t1 es1 (SetTable.grown es1.size)).2.2
    storeSet a (relayAll t1 es1 (SetTable.grown es1.size)).1 (relayAll t1 es1 (SetTable.grown es1.size)).2.1
    pure (some true)
   else pure (some true)) Q E s := by
 have z1 : es1.size = es.size + 1 := by
  have := p1.length_eq
  rw [List.length_append, Array.length_toList, Array.length_toList] at this
  exact this
 have e1 : ElemsOf (intKind prog w) es1.toList := (hel.push (intKind_is prog w k tk) rfl).perm p1
 have m1 : (es1.toList.map λ e => q3n e.2).Perm (ks ++ [k]) := by
  refine (p1.map _).trans ?_
  rw [List.map_append]
  exact hp.append_right _
 have b1 : es1.size < scanBound := by omega
 refine wpAny_bind (wpAny_storeSet_of ho hd ?_ (fits_of_scanBound b1))
 have o1 := z1J (es' := es1) (t' := t1) ho hd
 have sb := Heap.SameBut.update s.heap a (Obj.putSet es1 t1)
 split
 ·have p2 := relayAll_perm t1 es1 (SetTable.grown es1.size)
  have f2 := relayAll_fits t1 es1 (SetTable.grown es1.size)
  have g2 := g1.relayAll es1 (SetTable.grown es1.size)
  generalize relayAll t1 es1 (SetTable.grown es1.size) = R at p2 f2 g2 ⊢
  have z2 : R.1.size = es1.size := by
   have := p2.length_eq
   rwa [Array.length_toList, Array.length_toList] at this
  have b2 : R.1.size < scanBound := by omega
  refine wpAny_bind (hg _ _ _ ?_)
  refine wpAny_bind (wpAny_storeSet_of o1 rfl ?_ (fits_of_scanBound b2))
  refine wpAny_pure (h _ (sb.trans (Heap.SameBut.update _ a _)) ?_)
  exact ⟨_, R.1, _, R.2.1, z1J o1 rfl, hx, rfl, e1.perm p2, (p2.map _).trans m1, b2, f2, g2⟩
 ·refine wpAny_pure (h _ sb ?_)
  exact ⟨_, es1, _, t1, o1, hx, rfl, e1, m1, b1, f1, g1⟩
theorem z5H {k : Int} {tk : Tok} {Q : Bool -> Shared -> Prop} (hS : SetI prog w s.heap a ks) (hr : ks.length + 1 < scanBound)
  (h : ∀ h' b, Heap.SameBut a s.heap h' -> SetI prog w h' a (dk ks k) -> Q b { s with heap := h' }) :
  wpAny (model prog w) A (setAddHashed a (.int k tk) (hashInt k)) Q E s := by
 obtain ⟨o, es, ep, t, ho, hx, hd, hel, hp, hb, hf, ht⟩ := id hS
 have hz : es.size = ks.length := by
  have := hp.length_eq
  rwa [List.length_map, Array.length_toList] at this
 have hq : ∀ (b : Bool) (s₁ : Shared) (Q' : Unit -> Shared -> Prop), Q' () s₁ -> wpAny (model prog w) A (match b with | true => rule "set.scan.the-table-gave-way" | false => pure ()) Q' E s₁ := λ b s₁ Q' q => by
  cases b with
  | true => exact wpAny_rule q
  | false => exact wpAny_pure q
 unfold setAddHashed setAddHashedIn
 refine wpAny_holding (wpAny_bind (wpAny_setState_of ho hd hf ?_))
 dsimp only
 rw [byScan_of (knd := intKind prog w) (x := .int k tk) rfl hb hel, if_pos rfl]
 unfold setAddByScan
 refine wpAny_bind (wpAny_bind (wpAny_rule (wpAny_bind ?_)))
 refine wpAny_setScan_of (knd := intKind prog w) (intKind_is prog w k tk) ho hd hf hel ?_
 cases hi : es.toList.findIdx? (λ e => (intKind prog w).is k e.2) with
 | some j =>
  obtain ⟨hj, hk, _⟩ := List.findIdx?_eq_some_iff_getElem.mp hi
  have hm : k ∈ ks := hp.mem_iff.mp (List.mem_map.mpr ⟨es.toList[j], List.getElem_mem hj, (q9F hel (List.getElem_mem hj) k).mp hk⟩)
  have hd' : dk ks k = ks := by
   unfold dk
   rw [if_pos hm]
  refine wpAny_pure (wpAny_pure ?_)
  have := h s.heap false (Heap.SameBut.refl a s.heap) (by rw [hd']; exact hS)
  exact this
 | none =>
  have hm : k ∉ ks := λ z => by
   obtain ⟨e, he, q⟩ := List.mem_map.mp (hp.mem_iff.mpr z)
   have := List.findIdx?_eq_none_iff.mp hi e he
   rw [(q9F hel he k).mpr q] at this
   cases this
  have hd' : dk ks k = ks ++ [k] := by
   unfold dk
   rw [if_neg hm]
  rw [hd'] at h
  dsimp only
  have p1 := layNew_perm t es (hashInt k) (.int k tk)
  have f1 := layNew_fits t es (hashInt k) (.int k tk)
  have g1 := ht.layNew es (hashInt k) (.int k tk)
  show wpAny _ _ _ _ _ _
  change wpAny (model prog w) A (match layNew t es (hashInt k) (.int k tk) with | (es, t, wasDummy, gave) => _) _ _ _
  generalize layNew t es (hashInt k) (.int k tk) = L at p1 f1 g1 ⊢
  obtain ⟨es1, t1, wd, gv⟩ := L
  rw [Array.toList_push] at p1
  dsimp only at p1 f1 g1 ⊢
  refine wpAny_bind (hq gv _ _ ?_)
  have fin : ∀ t2 : SetTable, t2.fits es1.size = true -> Tab t2 (!q0H w) -> wpAny (model prog w) A (do
   storeSet a es1 t2
   if (!wd && t2.tooFull) = true then do
    (λ b : Bool => match b with | true => rule "set.scan.the-table-gave-way" | false => pure ()) (relayAll t2 es1 (SetTable.grown es1.size)).2.2
    storeSet a (relayAll t2 es1 (SetTable.grown es1.size)).1 (relayAll t2 es1 (SetTable.grown es1.size)).2.1
    pure (some true)
   else pure (some true)) (λ r s' => wpAny (model prog w) A (match r with | some added => pure added | none => setAddHashedIn a (.int k tk) (hashInt k) 99999) Q E s') E s := λ t2 f2 g2 =>
   z2L (k := k) (tk := tk) ho hx hd hel hp (by omega) ht p1 f2 g2 wd hq λ h' sb S' => wpAny_pure (h h' true sb S')
  split
  ·refine wpAny_bind ?_
   rw [hashByValue_scannable 8 (x := .int k tk) rfl]
   refine wpAny_pure ?_
   exact fin t1 f1 g1
  ·refine wpAny_bind (wpAny_pure ?_)
   exact fin t1 f1 g1
end
end L2
end
section
namespace L2
open PySem PySem.Spec PyProof.Rows
noncomputable def fm (val : Nat -> Int) (i : Nat) : List Int := ((List.range i).map val).foldl dk []
theorem q8R (val : Nat -> Int) (i : Nat) : fm val (i + 1) = dk (fm val i) (val i) := by
 unfold fm
 rw [List.range_succ, List.map_append, List.foldl_append]
 rfl
theorem q5B (σ : List Int) (k : Int) : (dk σ k).length <= σ.length + 1 := by
 unfold dk
 split
 ·exact Nat.le_succ _
 ·rw [List.length_append]; exact Nat.le_refl _
theorem z1U (val : Nat -> Int) : ∀ i, (fm val i).length <= i
 | 0 => Nat.le_refl _
 | i + 1 => by
  rw [q8R]
  exact Nat.le_trans (q5B _ _) (Nat.succ_le_succ (z1U val i))
section
variable {prog : Program} {w : World} {A : Around} {R : Result -> Shared -> Prop} {I : Addr} {fp wr : List Addr} {G : Array GenState -> Array GenState -> Prop} {n : Nat} {P : Nat -> Value -> Prop} {St : Nat -> Shared -> Prop}
theorem SetI.moved {s s' : Shared} {S : Addr} {ks : List Int} (x : SetI prog w s.heap S ks) (hm : Moved wr G s s') (hS : S ∉ wr) : SetI prog w s'.heap S ks := x.at λ o e => hm.heap S o hS e
theorem q8P (W : WalksS prog w A.in1 I fp wr G n P St) (S : Addr) (hSf : S ∉ fp) (val : Nat -> Int) (hval : ∀ i v, P i v -> ∃ t, v = .int (val i) t) (hb : n + 1 < scanBound) :
  ∀ (k i : Nat) (s : Shared), i + k = n -> St i s -> SetI prog w s.heap S (fm val i) ->
   (∀ s', Moved (S :: wr) G s s' -> SetI prog w s'.heap S (fm val n) -> R (.ok (.ret .none)) s') -> codeAny (model prog w) A (.builtin "set.update.loop" ⟨[.ref S, .ref I], []⟩) R s := by
 have hw : S ∉ wr := λ z => hSf (W.sub S z)
 have up : ∀ b ∈ wr, b ∈ S :: wr := λ b z => List.mem_cons_of_mem S z
 intro k
 induction k with
 | zero =>
  intro i s e st hs hR
  have e : i = n := e
  subst e
  refine codeAny_builtin F.entry_set_update_loop ?_
  rw [Around.under_plainId F.plain_set_update_loop]
  show wpAny (model prog w) A.in1 (pyNext (.ref I) >>= _) _ _ s
  refine wpAny_bind (W.done s _ _ st λ s' hm => ?_)
  show wpAny (model prog w) A.in1 (ret Value.none) _ _ s'
  exact wpAny_pure (hR s' (hm.mono up) (hs.moved hm hw))
 | succ k ih =>
  intro i s e st hs hR
  have hi : i < n := by omega
  refine codeAny_builtin F.entry_set_update_loop ?_
  rw [Around.under_plainId F.plain_set_update_loop]
  show wpAny (model prog w) A.in1 (pyNext (.ref I) >>= _) _ _ s
  refine wpAny_bind (W.item i s _ _ hi st λ v s' hP st' hm => ?_)
  obtain ⟨t, hv⟩ := hval i v hP
  subst hv
  have hs' := hs.moved hm hw
  show wpAny (model prog w) A.in1 (holding [Value.int (val i) t] (setAdd S (.int (val i) t)) >>= _) _ _ s'
  refine wpAny_bind (wpAny_holding ?_)
  unfold setAdd
  refine wpAny_holding (wpAny_bind ((intKind prog w).pyHash (k := val i) (intKind_is prog w (val i) t) ?_))
  have hl := z1U val i
  refine z5H (s := { s' with toks := s'.toks + 1 }) (k := val i) (tk := t) hs' (by omega) λ h' b sb S' => ?_
  have hkeep : ∀ b o, b ≠ S -> s'.heap.get? b = some o -> h'.get? b = some o := λ b o hb e => by rw [sb.2 b hb]; exact e
  refine wpAny_pure ⟨plainId_quiet F.plain_set_update_loop _, ih (i + 1) _ (by omega) (W.frame (i + 1) s' h' _ st' (Nat.le_succ _) λ b hb o e => hkeep b o (λ z => hSf (z ▸ hb)) e) (by rw [q8R]; exact S') λ s2 hm2 S2 => ?_⟩
  refine hR s2 (Moved.trans W.gtrans ((hm.mono up).then_heap (Nat.le_succ _) λ b o hb e => hkeep b o (λ z => hb (z ▸ List.mem_cons_self)) e) hm2) S2
end
noncomputable def set0 (w : World) : Obj := { cls := .type "set", dict := none, data := .set #[] 0 (.fresh 0 0 (!q0H w)) }
section
variable {prog : Program} {w : World} {A : Around} {E : Value -> Shared -> Prop} {s : Shared}
theorem z2j {h : Heap} {a : Addr} (e : h.get? a = some (set0 w)) : SetI prog w h a [] :=
 ⟨_, #[], 0, _, e, ⟨rfl, rfl, rfl⟩, rfl, λ _ z => by simp at z, by simp, by decide, by rfl, Tab.fresh _⟩
theorem q5F (v : Value) {Q : Value -> Shared -> Prop} (h : Q (.ref s.heap.objs.size) { s with heap := s.heap.push (set0 w) }) :
  codeAny (model prog w) A (.call (.builtin "set.__new__") ⟨[.type "set", v], []⟩) (wants Q E) s := by
 refine codeAny_of_tree ?_
 show wpAny (model prog w) A.in1 (do checkBuiltinCall "set.__new__" ⟨[.type "set", v], []⟩; again (.builtin "set.__new__" ⟨[.type "set", v], []⟩)) _ _ s
 refine wpAny_bind (wpAny_of_eq (F.newCall_set_1 v) ?_)
 refine wpAny_pure ⟨plainId_quiet F.plain_set_new _, codeAny_builtin F.entry_set_new ?_⟩
 rw [Around.under_plainId F.plain_set_new]
 unfold Builtin.«set.__new__» Builtin.Frozenset.newClass
 have q := sub_set_self
 obtain ⟨h0, g0, d0, t0, o0⟩ := s
 dsimp only
 wp_walk
 refine wpAny_askSetting (wpAny_pure ?_)
 dsimp only
 simp only [newObj]
 exact wpAny_bind (wpAny_alloc (wpAny_pure (wpAny_pure h)))
theorem z4z {l : Addr} {items : Array Value} {ns : List Int} {Q : Value -> Shared -> Prop} (hh : A.handled = none) (hl : s.heap.IsList l items) (hi : IntsAre items.toList ns) (hb : items.size + 1 < scanBound)
  (h : ∀ h' tk, SetI prog w h' s.heap.objs.size (fm (λ i => ns.getD i 0) items.size) -> (∀ b o, s.heap.get? b = some o -> h'.get? b = some o) -> Q (.ref s.heap.objs.size) { s with heap := h', toks := tk }) :
  wpAny (model prog w) A (call (.type "set") [.ref l]) Q E s := by
 have m0 := F.called_set.mro
 obtain ⟨c0, r0, m1⟩ := m0
 have m2 := F.called_set.made
 have m3 := F.called_set.sub
 have m4 := F.called_set.notType
 have m5 := F.called_set.canCreate
 have m6 := F.typeCall_set_1 (.ref l)
 refine wpAny_call (codeAny_of_tree ?_)
 show wpAny (model prog w) _ (callAny (.type "set") _) _ _ _
 refine wpAny_pure ⟨Code.quiet_builtin _ (by decide +kernel), codeAny_builtin F.entry_type_call ?_⟩
 rw [Around.under_plain (weight_type_call_type "set" [.ref l] []) rfl]
 repeat (any_goals (first | assumption | wp_step))
 refine codeAny_mono (q5F (.ref l) (E := E) (Q := λ v s1 => v = .ref s.heap.objs.size /\ s1 = { s with heap := s.heap.push (set0 w) }) ⟨rfl, rfl⟩) λ r s1 q => ?_
 cases r with
 | error e => exact q
 | ok f =>
  cases f with
  | ret v =>
   obtain ⟨e1, e2⟩ := q
   subst e1
   subst e2
   have g0 : (s.heap.push (set0 w)).get? s.heap.objs.size = some (set0 w) := Heap.get?_push_size _ rfl
   have ty : Shared.TypeIs { s with heap := s.heap.push (set0 w) } (.ref s.heap.objs.size) "set" := ⟨_, g0, rfl⟩
   have n1 := F.called_set.init.lookup
   have n2 := F.called_set.init.bind (.ref s.heap.objs.size)
   repeat (any_goals (first | assumption | wp_step))
   refine codeAny_mono (codeAny_call_builtin (R := wants (λ v s2 => v = .none /\ ∃ h' tk, s2 = { s with heap := h', toks := tk } /\ SetI prog w h' s.heap.objs.size (fm (λ i => ns.getD i 0) items.size) /\
     ∀ b o, s.heap.get? b = some o -> h'.get? b = some o) E) F.called_set.init.plain F.entry_set_init (check_set_init_1 ty ?_)) λ r2 s2 q2 => ?_
   ·obtain ⟨⟨k1, k2, k3, k4⟩, kl, kc, kn, kd⟩ := hl
    dsimp only at kc kd
    subst kc
    subst kd
    have kl' : (s.heap.push (set0 w)).get? l = some { cls := .type "list", dict := k2, data := .seq items kn, slots := k4 } := Heap.get?_push_of_some _ kl
    have il : (s.heap.push (set0 w)).IsList l items := ⟨_, kl', rfl, kn, rfl⟩
    have p1 := F.sub_list_set
    have p2 := F.sub_list_frozenset
    have p3 : (Value.type "list" == Value.type "dict") = false := by decide
    unfold Builtin.«set.__init__» noKeywords Builtin.Frozenset.updateFrom
    generalize hP : pyIter = PI
    wp_walk
    subst hP
    refine wpAny_pyIter_list il (wpAny_bind (wpAny_runValue ?_))
    have l0 : l < s.heap.objs.size := Heap.lt_size kl
    have z1 : (s.heap.push (set0 w)).objs.size = s.heap.objs.size + 1 := Heap.size_push _ _
    have a1 : l ≠ (s.heap.push (set0 w)).objs.size := by rw [z1]; exact Nat.ne_of_lt (Nat.lt_succ_of_lt l0)
    have a2 : s.heap.objs.size ∉ [(s.heap.push (set0 w)).objs.size, l] := by
     rw [z1]
     intro z
     rcases List.mem_cons.mp z with z | z
     ·exact absurd z (Nat.ne_of_lt (Nat.lt_succ_self _))
     ·exact absurd (List.mem_singleton.mp z) (Nat.ne_of_gt l0)
    refine q8P ((Walks.list (by show A.handled = none; exact hh) _ l a1 items).toS) s.heap.objs.size a2 (λ i => ns.getD i 0) (λ i v e => IntsAre.int_at hi i v (by rw [Array.getElem?_toList]; exact e)) hb
     items.size 0 _ (Nat.zero_add _) ⟨⟨_, Heap.get?_push_size _ rfl, rfl, rfl⟩, il.push _⟩ (z2j (Heap.get?_push_of_some _ g0)) λ s3 hm S3 => ?_
    obtain ⟨h3, g3, d3, t3, o3⟩ := s3
    have b1 : g3 = s.gens := hm.gens
    have b2 : d3 = s.drawn := hm.drawn
    have b3 : o3 = s.os := hm.os
    subst b1
    subst b2
    subst b3
    show wpAny (model prog w) _ _ _ _ _
    refine wpAny_pure ?_
    show wpAny (model prog w) _ (ret Value.none) _ _ _
    refine wpAny_pure ⟨rfl, h3, t3, rfl, S3, λ b o e => ?_⟩
    have b4 := Heap.lt_size e
    refine hm.heap b o (λ z => ?_) (Heap.get?_push_of_some _ (Heap.get?_push_of_some _ e))
    rcases List.mem_cons.mp z with z | z
    ·exact absurd z (Nat.ne_of_lt b4)
    ·have := List.mem_singleton.mp z
     rw [z1] at this
     exact absurd this (Nat.ne_of_lt (Nat.lt_succ_of_lt b4))
   ·cases r2 with
    | error e => exact q2
    | ok f2 =>
     cases f2 with
     | ret v2 =>
      obtain ⟨c1, h', tk, c2, c3, c4⟩ := q2
      subst c1
      subst c2
      repeat (any_goals (first | assumption | wp_step))
      exact h h' tk c3 c4
     | _ => exact q2.elim
  | _ => exact q.elim
end
end L2
end
section
namespace L2
open PySem PyProof.Rows
noncomputable def q1j (h : Heap) (I a : Addr) (f : Value) (i n ep : Nat) : Prop := ∃ o, h.get? I = some o /\ o.cls = .type "set_iterator" /\ o.data = .fields #[f, .int i 0, .ref a, .int n 0, .int ep 0]
noncomputable def q2J (h : Heap) (a : Addr) (es : Array (Int × Value)) (ep : Nat) (t : SetTable) : Prop := ∃ o, h.get? a = some o /\ o.ExactSet /\ o.data = .set es ep t
theorem q1j.typeIs {s : Shared} {I a : Addr} {f : Value} {i n ep : Nat} (x : q1j s.heap I a f i n ep) : s.TypeIs (.ref I) "set_iterator" := let ⟨o, e, c, _⟩ := x; ⟨o, e, c⟩
theorem q1j.at {h h' : Heap} {I a : Addr} {f : Value} {i n ep : Nat} (x : q1j h I a f i n ep) (k : ∀ o, h.get? I = some o -> h'.get? I = some o) : q1j h' I a f i n ep := let ⟨o, e, c⟩ := x; ⟨o, k o e, c⟩
theorem q2J.at {h h' : Heap} {a : Addr} {es : Array (Int × Value)} {ep : Nat} {t : SetTable} (x : q2J h a es ep t) (k : ∀ o, h.get? a = some o -> h'.get? a = some o) : q2J h' a es ep t := let ⟨o, e, c⟩ := x; ⟨o, k o e, c⟩
theorem q2J.typeIs {s : Shared} {a : Addr} {es : Array (Int × Value)} {ep : Nat} {t : SetTable} (x : q2J s.heap a es ep t) : s.TypeIs (.ref a) "set" := let ⟨o, e, c, _⟩ := x; ⟨o, e, c.1⟩
theorem q1I : Slot "set_iterator" "__next__" "set_iterator.__next__" :=
 .of (owner := "set_iterator") (n := "__next__") (by rw [typeLookup_type, builtinLookup_eq_fast]; kernel_rfl) (by decide +kernel) (by decide +kernel) (by decide +kernel)
  (by first | exact .inl (by decide +kernel) | exact .inr (by decide +kernel)) (by rw [isSubtype_type]; kernel_rfl)
theorem q3H : entryFor table "set_iterator.__next__" = some Builtin.«set_iterator.__next__» := entryFor_of_tree (by kernel_rfl)
theorem q5x (v : Value) : argsOk "set_iterator.__next__" ⟨[v], []⟩ := by unfold argsOk; kernel_rfl
theorem z0e : entryFor table "set.__iter__" = some Builtin.«frozenset.__iter__» := entryFor_alias (id' := "frozenset.__iter__") (by kernel_rfl) rfl (by decide +kernel) (by kernel_rfl)
section
variable {prog : Program} {w : World} {A : Around} {E : Value -> Shared -> Prop} {s : Shared} {I a : Addr} {es : Array (Int × Value)} {ep : Nat} {t : SetTable} {Q : Option Value -> Shared -> Prop}
theorem q6l {h : Heap} {o : Obj} {f : Value} {i : Nat} {n : Nat} (e : h.get? I = some o) (c : o.cls = .type "set_iterator") (d : o.data = .fields #[f, .int i 0, .ref a, .int n 0, .int ep 0]) :
  q1j (h.update I (Obj.mapFields (·.setIfInBounds 1 (rawInt ((i : Int) + 1))))) I a f (i + 1) n ep := by
 refine ⟨_, Heap.get?_update_self _ e (Obj.isFreed_of_fields (Obj.data_mapFields d _)), (Obj.cls_mapFields ..).trans c, ?_⟩
 rw [Obj.data_mapFields d]
 simp [rawInt]
theorem q7r {h : Heap} {o : Obj} {f : Value} (g : Value) {i : Nat} {n : Nat} (e : h.get? I = some o) (c : o.cls = .type "set_iterator") (d : o.data = .fields #[f, .int i 0, .ref a, .int n 0, .int ep 0]) :
  q1j (h.update I (Obj.mapFields (·.setIfInBounds 0 g))) I a g i n ep := by
 refine ⟨_, Heap.get?_update_self _ e (Obj.isFreed_of_fields (Obj.data_mapFields d _)), (Obj.cls_mapFields ..).trans c, ?_⟩
 rw [Obj.data_mapFields d]
 simp
theorem q7n {slot i j : Nat} {x : Value} (hI : q1j s.heap I a (.int slot 0) i es.size ep) (hS : q2J s.heap a es ep t) (hf : t.fits es.size = true)
  (hn : ∀ (A : Around) (E' : Value -> Shared -> Prop) (Q' : Option (Value × Nat) -> Shared -> Prop), Q' (some (x, j)) s -> wpAny (model prog w) A (setNext a slot i ep) Q' E' s)
  (hQ : ∀ h', q1j h' I a (.int j 0) (i + 1) es.size ep -> Heap.SameBut I s.heap h' -> Q (some x) { s with heap := h' }) : wpAny (model prog w) A (pyNext (.ref I)) Q E s := by
 obtain ⟨o, ho, hc, hd⟩ := id hI
 obtain ⟨p, hp, hx, hq⟩ := id hS
 unfold pyNext
 refine wpAny_bind (wpAny_attempt (wpAny_callSpecial?_slot (name := Str.ofString "__next__") hI.typeIs q1I (wpAny_call_entry q1I hI.typeIs q3H ?_ (q5x _))))
 unfold Builtin.«set_iterator.__next__»
 refine wpAny_bind (wpAny_pure ?_)
 dsimp only
 refine wpAny_bind (wpAny_fieldsOf ho hd ?_)
 dsimp only
 refine wpAny_bind (wpAny_setEntries_of hp hq hf ?_)
 rw [show (((es.size : Nat) : Int) != ((es.size : Nat) : Int)) = false by simp, if_neg Bool.false_ne_true]
 simp only [Int.toNat_natCast]
 refine wpAny_bind (hn _ _ _ ?_)
 dsimp only
 refine wpAny_bind (wpAny_setField ho hd (by simp) ?_)
 have I1 := q7r (ep := ep) (rawInt j) ho hc hd
 obtain ⟨o1, ho1, hc1, hd1⟩ := id I1
 refine wpAny_bind (wpAny_setField ho1 hd1 (by simp) (wpAny_pure ⟨x, rfl, wpAny_pure (hQ _ (q6l ho1 hc1 hd1) ?_)⟩))
 exact (Heap.SameBut.update ..).trans (Heap.SameBut.update ..)
theorem q8v {slot i : Nat} (hh : A.handled = none) (hI : q1j s.heap I a (.int slot 0) i es.size ep) (hS : q2J s.heap a es ep t) (hf : t.fits es.size = true)
  (hn : ∀ (A : Around) (E' : Value -> Shared -> Prop) (Q' : Option (Value × Nat) -> Shared -> Prop), Q' none s -> wpAny (model prog w) A (setNext a slot i ep) Q' E' s)
  (hQ : ∀ h', Heap.ExtBut I s.heap h' -> Q none { s with heap := h' }) : wpAny (model prog w) A (pyNext (.ref I)) Q E s := by
 obtain ⟨o, ho, hc, hd⟩ := id hI
 obtain ⟨p, hp, hx, hq⟩ := id hS
 unfold pyNext
 refine wpAny_bind (wpAny_attempt (wpAny_callSpecial?_slot (name := Str.ofString "__next__") hI.typeIs q1I (wpAny_call_entry q1I hI.typeIs q3H ?_ (q5x _))))
 unfold Builtin.«set_iterator.__next__»
 refine wpAny_bind (wpAny_pure ?_)
 dsimp only
 refine wpAny_bind (wpAny_fieldsOf ho hd ?_)
 dsimp only
 refine wpAny_bind (wpAny_setEntries_of hp hq hf ?_)
 rw [show (((es.size : Nat) : Int) != ((es.size : Nat) : Int)) = false by simp, if_neg Bool.false_ne_true]
 simp only [Int.toNat_natCast]
 refine wpAny_bind (hn _ _ _ ?_)
 dsimp only
 refine wpAny_bind (wpAny_setField ho hd (by simp) ?_)
 refine wpAny_bind ?_
 simp only [newExc, newTuple]
 refine wpAny_bind (wpAny_newObj_type ?_ (by size_fits))
 refine wpAny_bind (m := firstArgMember _ _) (wpAny_of_eq (a := Value.none) (by first | rfl | (simp only [firstArgMember]; rfl)) ?_)
 refine wpAny_newObj_type ?_ (by size_fits)
 simp only [raiseNew]
 refine wpAny_bind (wpAny_handled ?_)
 rw [show A.in1.handled = none from hh]
 refine wpAny_bind (wpAny_pure (wpAny_throw ?_))
 refine wpAny_bind (wpAny_isInstance (T := "StopIteration") (b := true) ⟨_, Heap.get?_push_size _ rfl, rfl⟩ isSubtype_stop ?_)
 exact wpAny_pure (hQ _ (((Heap.SameBut.update ..).extBut.push _).push _))
theorem z0p {q : Addr} {ps : Array Value} {i k : Nat} {x : Value} {z : Int} (hI : q1j s.heap I a (.ref q) i es.size ep) (hS : q2J s.heap a es ep t) (hf : t.fits es.size = true) (ht : IsTup s.heap q ps) (hk : ps[i]? = some (.int k 0)) (hx : es[k]? = some (z, x))
  (hQ : ∀ h', q1j h' I a (.ref q) (i + 1) es.size ep -> Heap.SameBut I s.heap h' -> Q (some x) { s with heap := h' }) : wpAny (model prog w) A (pyNext (.ref I)) Q E s := by
 obtain ⟨o, ho, hc, hd⟩ := id hI
 obtain ⟨p, hp, hxx, hq⟩ := id hS
 unfold pyNext
 refine wpAny_bind (wpAny_attempt (wpAny_callSpecial?_slot (name := Str.ofString "__next__") hI.typeIs q1I (wpAny_call_entry q1I hI.typeIs q3H ?_ (q5x _))))
 unfold Builtin.«set_iterator.__next__»
 refine wpAny_bind (wpAny_pure ?_)
 dsimp only
 refine wpAny_bind (wpAny_fieldsOf ho hd ?_)
 dsimp only
 refine wpAny_bind (wpAny_setEntries_of hp hq hf ?_)
 rw [show (((es.size : Nat) : Int) != ((es.size : Nat) : Int)) = false by simp, if_neg Bool.false_ne_true]
 simp only [Int.toNat_natCast]
 obtain ⟨oq, hoq, hcq, nq, hdq⟩ := ht
 refine wpAny_bind (wpAny_seqItems hoq hdq ?_)
 dsimp only
 rw [hk]
 dsimp only
 unfold setNextDrawn
 simp only [Int.toNat_natCast]
 refine wpAny_bind (wpAny_bind (wpAny_setState_of hp hq hf ?_))
 dsimp only
 rw [show (ep != ep) = false by simp, if_neg Bool.false_ne_true]
 rw [hx]
 refine wpAny_pure ?_
 refine wpAny_bind (wpAny_setField ho hd (by simp) (wpAny_pure ⟨x, rfl, wpAny_pure (hQ _ (q6l ho hc hd) (Heap.SameBut.update ..))⟩))
theorem z2G {q : Addr} {ps : Array Value} {i : Nat} (hh : A.handled = none) (hI : q1j s.heap I a (.ref q) i es.size ep) (hS : q2J s.heap a es ep t) (hf : t.fits es.size = true) (ht : IsTup s.heap q ps) (hk : ps[i]? = none)
  (hQ : ∀ h', Heap.ExtBut I s.heap h' -> Q none { s with heap := h' }) : wpAny (model prog w) A (pyNext (.ref I)) Q E s := by
 obtain ⟨o, ho, hc, hd⟩ := id hI
 obtain ⟨p, hp, hx, hq⟩ := id hS
 unfold pyNext
 refine wpAny_bind (wpAny_attempt (wpAny_callSpecial?_slot (name := Str.ofString "__next__") hI.typeIs q1I (wpAny_call_entry q1I hI.typeIs q3H ?_ (q5x _))))
 unfold Builtin.«set_iterator.__next__»
 refine wpAny_bind (wpAny_pure ?_)
 dsimp only
 refine wpAny_bind (wpAny_fieldsOf ho hd ?_)
 dsimp only
 refine wpAny_bind (wpAny_setEntries_of hp hq hf ?_)
 rw [show (((es.size : Nat) : Int) != ((es.size : Nat) : Int)) = false by simp, if_neg Bool.false_ne_true]
 simp only [Int.toNat_natCast]
 obtain ⟨oq, hoq, hcq, nq, hdq⟩ := ht
 refine wpAny_bind (wpAny_seqItems hoq hdq ?_)
 dsimp only
 rw [hk]
 dsimp only
 refine wpAny_bind (wpAny_setField ho hd (by simp) ?_)
 obtain ⟨o1, ho1, hc1, hd1⟩ := q7r (ep := ep) (rawInt 0) ho hc hd
 refine wpAny_bind (wpAny_setField ho1 hd1 (by simp) ?_)
 refine wpAny_bind ?_
 simp only [newExc, newTuple]
 refine wpAny_bind (wpAny_newObj_type ?_ (by size_fits))
 refine wpAny_bind (m := firstArgMember _ _) (wpAny_of_eq (a := Value.none) (by first | rfl | (simp only [firstArgMember]; rfl)) ?_)
 refine wpAny_newObj_type ?_ (by size_fits)
 simp only [raiseNew]
 refine wpAny_bind (wpAny_handled ?_)
 rw [show A.in1.handled = none from hh]
 refine wpAny_bind (wpAny_pure (wpAny_throw ?_))
 refine wpAny_bind (wpAny_isInstance (T := "StopIteration") (b := true) ⟨_, Heap.get?_push_size _ rfl, rfl⟩ isSubtype_stop ?_)
 exact wpAny_pure (hQ _ ((((Heap.SameBut.update ..).trans (Heap.SameBut.update ..)).extBut.push _).push _))
end
end L2
end
section
namespace L2
open PySem PyProof.Rows
section
variable {prog : Program} {w : World} {A : Around} {E : Value -> Shared -> Prop} {s : Shared} {I a : Addr} {es : Array (Int × Value)} {ep : Nat} {t : SetTable}
theorem q9s {slot i : Nat} {Q : Option (Value × Nat) -> Shared -> Prop} (ho : q0H w = true) (hS : q2J s.heap a es ep t) (hf : t.fits es.size = true)
  (h : Q (((pickOrder (w.params.setOrder a ep) es)[i]?).map λ e => (e.2, slot)) s) : wpAny (model prog w) A (setNext a slot i ep) Q E s := by
 obtain ⟨p, hp, hx, hq⟩ := id hS
 unfold setNext
 refine wpAny_bind (wpAny_setState_of hp hq hf ?_)
 dsimp only
 unfold setsByText
 refine wpAny_bind (wpAny_bind (wpAny_askSetting (wpAny_pure ?_)))
 show wpAny (model prog w) A (if q0H w = true then _ else _) Q E s
 rw [if_pos ho]
 rw [show (ep != ep) = false by simp, if_neg Bool.false_ne_true]
 refine wpAny_bind ?_
 unfold setWalk
 refine wpAny_bind (wpAny_setState_of hp hq hf ?_)
 dsimp only
 unfold setsByText
 refine wpAny_bind (wpAny_bind (wpAny_askSetting (wpAny_pure ?_)))
 show wpAny (model prog w) A (if q0H w = true then _ else _) _ E s
 rw [if_pos ho]
 exact wpAny_bind (wpAny_askSetting (wpAny_pure (wpAny_pure h)))
theorem z1z {slot i : Nat} {Q : Option (Value × Nat) -> Shared -> Prop} (ho : q0H w = false) (hd : (!t.plain && decide (es.size > 1)) = false) (hl : t.led = true) (hS : q2J s.heap a es ep t) (hf : t.fits es.size = true)
  (h : Q (match es[SetTable.below t.place slot]?, t.place[SetTable.below t.place slot]? with | some (_, x), some j => some (x, j + 1) | _, _ => none) s) : wpAny (model prog w) A (setNext a slot i ep) Q E s := by
 obtain ⟨p, hp, hx, hq⟩ := id hS
 unfold setNext
 refine wpAny_bind (wpAny_setState_of hp hq hf ?_)
 dsimp only
 unfold setsByText
 refine wpAny_bind (wpAny_bind (wpAny_askSetting (wpAny_pure ?_)))
 show wpAny (model prog w) A (if q0H w = true then _ else _) Q E s
 rw [if_neg (by rw [ho]; exact Bool.false_ne_true)]
 show wpAny (model prog w) A (if (!t.plain && decide (es.size > 1)) = true then _ else _) Q E s
 rw [hd, if_neg Bool.false_ne_true]
 refine wpAny_bind ?_
 show wpAny (model prog w) A (if (!t.led && !es.isEmpty) = true then _ else _) _ E s
 rw [hl]
 exact wpAny_pure (wpAny_pure h)
theorem z3t {α : Type} {Q : List α -> Shared -> Prop} : ∀ (n : Nat) (xs : List α) (s : Shared), xs.length = n -> (∀ l d, l.Perm xs -> Q l { s with drawn := d }) -> wpAny (model prog w) A (drawOrder n xs) Q E s := by
 intro n
 induction n generalizing Q with
 | zero =>
  intro xs s hl h
  have : xs = [] := List.length_eq_zero_iff.mp hl
  subst this
  exact wpAny_pure (h [] s.drawn .rfl)
 | succ n ih =>
  intro xs s hl h
  cases xs with
  | nil => cases hl
  | cons y r =>
   show wpAny (model prog w) A (choose .order (y :: r).length >>= _) Q E s
   have key : ∀ i, i < (y :: r).length -> wpAny (model prog w) A (match (y :: r)[i]? with
     | some x => do return x :: (← drawOrder n ((y :: r).eraseIdx i))
     | none => unsupported "internal:drawOrder") Q E { s with drawn := s.drawn.bump .order } := λ i hi => by
    have hg : (y :: r)[i]? = some (y :: r)[i] := List.getElem?_eq_getElem hi
    rw [hg]
    refine wpAny_bind (ih _ _ (by rw [List.length_eraseIdx, if_pos hi]; omega) λ l d p => wpAny_pure (h _ d ?_))
    exact (List.Perm.cons _ p).trans (q3q hi rfl)
   refine wpAny_bind λ Γ p hΓ => ⟨by simp, ?_⟩
   exact key _ (Nat.mod_lt _ (by simp))
noncomputable def q6L (f : Value) (a : Addr) (n ep : Nat) : Obj := { cls := .type "set_iterator", data := .fields #[f, .int 0 0, .ref a, .int n 0, .int ep 0] }
noncomputable def q8B (l : List Nat) : Obj := { cls := .type "tuple", data := .seq (l.map λ (i : Nat) => Value.int i 0).toArray }
theorem q4V {h : Heap} {f : Value} {n : Nat} : q1j (h.push (q6L f a n ep)) h.objs.size a f 0 n ep := ⟨_, Heap.get?_push_size _ rfl, rfl, rfl⟩
theorem z0z {Q : Value -> Shared -> Prop} (hS : q2J s.heap a es ep t) (hf : t.fits es.size = true) (hb : es.size <= sizeLine)
  (h1 : (!q0H w && (!t.plain && decide (es.size > 1))) = false -> Q (.ref s.heap.objs.size) { s with heap := s.heap.push (q6L (.int 0 0) a es.size ep) })
  (h2 : ∀ l d, q0H w = false -> l.Perm (List.range es.size) -> Q (.ref (s.heap.objs.size + 1)) { s with heap := (s.heap.push (q8B l)).push (q6L (.ref s.heap.objs.size) a es.size ep), drawn := d }) :
  wpAny (model prog w) A (pyIter (.ref a)) Q E s := by
 obtain ⟨p, hp, hx, hq⟩ := id hS
 refine wpAny_pyIter_slot hS.typeIs F.slot_set_iter (wpAny_call_entry F.slot_set_iter hS.typeIs z0e ?_ (F.args_set_iter_1 _))
 unfold Builtin.«frozenset.__iter__» Builtin.Frozenset.slot0 slotArgs
 simp only [List.isEmpty_nil, Bool.not_true, Bool.false_eq_true, ↓reduceIte, bind_assoc, List.length_nil, bne_self_eq_false]
 unfold Builtin.Frozenset.addrOf Builtin.Frozenset.sizeOf
 refine wpAny_bind (wpAny_pure ?_)
 try dsimp only
 refine wpAny_bind (wpAny_pure ?_)
 refine wpAny_bind (wpAny_bind (wpAny_setEntries_of hp hq hf (wpAny_pure ?_)))
 unfold setDrawn
 refine wpAny_bind (wpAny_bind (wpAny_setState_of hp hq hf ?_))
 dsimp only
 unfold setsByText
 refine wpAny_bind (wpAny_bind (wpAny_askSetting (wpAny_pure (wpAny_pure ?_))))
 show wpAny (model prog w) _ (if (!q0H w && (!t.plain && decide (es.size > 1))) = true then _ else _) _ _ _
 by_cases hc : (!q0H w && (!t.plain && decide (es.size > 1))) = true
 ·rw [if_pos hc]
  have ho : q0H w = false := by
   cases e : q0H w with
   | false => rfl
   | true => rw [e] at hc; cases hc
  refine wpAny_bind (z3t es.size (List.range es.size) s (List.length_range) λ l d pl => ?_)
  have hl : l.length = es.size := by rw [pl.length_eq, List.length_range]
  unfold newTuple
  refine wpAny_bind (wpAny_newObj_type ?_ (by show (l.map _).toArray.size <= _; simp; omega))
  have hp' : (s.heap.push { cls := .type "tuple", data := .seq (l.map λ (i : Nat) => rawInt i).toArray }).get? a = some p := Heap.get?_push_of_some _ hp
  refine wpAny_bind (wpAny_setEpoch_of hp' hq hf ?_)
  refine wpAny_bind (wpAny_newObj_type (wpAny_pure ⟨_, rfl, "set_iterator", _, ⟨_, Heap.get?_push_size _ rfl, rfl⟩, q1I.lookup, ?_⟩))
  have z : (s.heap.push { cls := .type "tuple", data := .seq (l.map λ (i : Nat) => rawInt i).toArray }).objs.size = s.heap.objs.size + 1 := Heap.size_push _ _
  have := h2 l d ho pl
  rw [← z] at this
  exact this
 ·rw [if_neg hc]
  refine wpAny_bind (wpAny_pure ?_)
  refine wpAny_bind (wpAny_setEpoch_of hp hq hf ?_)
  refine wpAny_bind (wpAny_newObj_type (wpAny_pure ⟨_, rfl, "set_iterator", _, ⟨_, Heap.get?_push_size _ rfl, rfl⟩, q1I.lookup, ?_⟩))
  exact h1 (by simpa using hc)
end
section
variable {prog : Program} {w : World} {A : Around} {E : Value -> Shared -> Prop} {s : Shared} {I a : Addr} {es : Array (Int × Value)} {ep : Nat} {t : SetTable}
noncomputable abbrev Nx (prog : Program) (w : World) (I : Addr) (fp : List Addr) (n : Nat) (ws : List Value) (St : Nat -> Heap -> Prop) : Prop :=
 ∀ A : Around, A.handled = none -> WalksS prog w A I fp [I] (λ a b => b = a) n (λ i v => ws[i]? = some v) (λ i s => St i s.heap)
theorem z2Q {fp : List Addr} {n : Nat} {ws : List Value} {St : Nat -> Heap -> Prop} (hI : I ∈ fp) (hz : ws.length = n)
    (fr : ∀ i h h', St i h -> (∀ b ∈ fp, ∀ o, h.get? b = some o -> h'.get? b = some o) -> St i h')
    (it : ∀ (A : Around) (E : Value -> Shared -> Prop) (Q : Option Value -> Shared -> Prop) (s : Shared) i v, A.handled = none -> ws[i]? = some v -> St i s.heap -> (∀ h', St (i + 1) h' -> Heap.SameBut I s.heap h' -> Q (some v) { s with heap := h' }) -> wpAny (model prog w) A (pyNext (.ref I)) Q E s)
    (dn : ∀ (A : Around) (E : Value -> Shared -> Prop) (Q : Option Value -> Shared -> Prop) (s : Shared), A.handled = none -> St n s.heap -> (∀ h', Heap.ExtBut I s.heap h' -> Q none { s with heap := h' }) -> wpAny (model prog w) A (pyNext (.ref I)) Q E s)
    (sf : ∀ (A : Around) (E : Value -> Shared -> Prop) (Q : Value -> Shared -> Prop) (s : Shared) i, St i s.heap -> Q (.ref I) s -> wpAny (model prog w) A (pyIter (.ref I)) Q E s) : Nx prog w I fp n ws St := λ A hh =>
  { sub := λ b hb => by rw [List.mem_singleton.mp hb]; exact hI
    grefl := λ _ => rfl
    gtrans := λ _ _ _ h1 h2 => h2.trans h1
    frame := λ i s h' tk st _ k => fr i s.heap h' st k
    item := λ i s Q E hi st hQ => by
      have hg : ws[i]? = some ws[i] := List.getElem?_eq_getElem (by omega)
      exact it A E Q s i _ hh hg st λ h' st' sb => hQ _ _ hg st' ⟨λ b o hb e => sb.extBut b o (λ z => hb (List.mem_singleton.mpr z)) e, rfl, rfl, rfl, Nat.le_refl _⟩
    done := λ s Q E st hQ => dn A E Q s hh st λ h' eb => hQ _ ⟨λ b o hb e => eb b o (λ z => hb (List.mem_singleton.mpr z)) e, rfl, rfl, rfl, Nat.le_refl _⟩
    self := λ i s Q E st hQ => sf A E Q s i st hQ }
theorem q4Z {h h' : Heap} {b : Addr} (sb : Heap.SameBut I h h') (hb : b ≠ I) : ∀ o, h.get? b = some o -> h'.get? b = some o := λ o e => sb.extBut b o hb e
theorem q7p : Slot "set_iterator" "__iter__" "set_iterator.__iter__" :=
 .of (owner := "set_iterator") (n := "__iter__") (by rw [typeLookup_type, builtinLookup_eq_fast]; kernel_rfl) (by decide +kernel) (by decide +kernel) (by decide +kernel)
  (by first | exact .inl (by decide +kernel) | exact .inr (by decide +kernel)) (by rw [isSubtype_type]; kernel_rfl)
theorem q9p : entryFor table "set_iterator.__iter__" = some Builtin.«dict_keyiterator.__iter__» := entryFor_alias (id' := "dict_keyiterator.__iter__") (by kernel_rfl) rfl (by decide +kernel) (by kernel_rfl)
theorem z0Z (v : Value) : argsOk "set_iterator.__iter__" ⟨[v], []⟩ := by unfold argsOk; kernel_rfl
theorem q6v {f : Value} {i n : Nat} {Q : Value -> Shared -> Prop} (hI : q1j s.heap I a f i n ep) (h : Q (.ref I) s) : wpAny (model prog w) A (pyIter (.ref I)) Q E s := by
 refine wpAny_pyIter_slot hI.typeIs q7p (wpAny_call_entry q7p hI.typeIs q9p ?_ (z0Z _))
 show wpAny (model prog w) _ (ret (.ref I)) _ _ s
 exact wpAny_pure ⟨_, rfl, "set_iterator", _, hI.typeIs, q1I.lookup, h⟩
theorem q9A (ho : q0H w = true) (hf : t.fits es.size = true) (hne : a ≠ I) :
  Nx prog w I [I, a] es.size ((pickOrder (w.params.setOrder a ep) es).toList.map (·.2)) (λ i h => q1j h I a (.int (0 : Nat) 0) i es.size ep /\ q2J h a es ep t) := by
 have hz : (pickOrder (w.params.setOrder a ep) es).size = es.size := by
  have := (q2N (w.params.setOrder a ep) es).length_eq
  rwa [Array.length_toList, Array.length_toList] at this
 refine z2Q (by simp) (by rw [List.length_map, Array.length_toList, hz]) (λ i h h' st k => ⟨st.1.at (k I (by simp)), st.2.at (k a (by simp))⟩) (λ A E Q s i v hh hv st hQ => ?_) (λ A E Q s hh st hQ => ?_) λ A E Q s i st h => q6v st.1 h
 ·obtain ⟨e, he, hev⟩ : ∃ e, (pickOrder (w.params.setOrder a ep) es)[i]? = some e /\ e.2 = v := by
   rw [List.getElem?_map, Array.getElem?_toList] at hv
   cases q : (pickOrder (w.params.setOrder a ep) es)[i]? with
   | none => rw [q] at hv; cases hv
   | some e => rw [q] at hv; cases hv; exact ⟨e, rfl, rfl⟩
  refine q7n (slot := 0) (j := 0) (x := v) st.1 st.2 hf (λ A E' Q' q => q9s ho st.2 hf (by rw [he, Option.map_some, hev]; exact q)) λ h' st' sb => ?_
  exact hQ h' ⟨st', st.2.at (q4Z sb hne)⟩ sb
 ·refine q8v (slot := 0) hh st.1 st.2 hf (λ A E' Q' q => q9s ho st.2 hf (by rw [Array.getElem?_eq_none (by omega)]; exact q)) hQ
noncomputable def slotAt (t : SetTable) : Nat -> Nat
 | 0 => 0
 | i + 1 => t.place.getD i 0 + 1
theorem q3z (ht : Rise t.place) : ∀ {i : Nat}, i <= t.place.size -> SetTable.below t.place (slotAt t i) = i
 | 0, _ => q7P ht
 | i + 1, h => by
  have hg : t.place[i]? = some t.place[i] := Array.getElem?_eq_getElem (by omega)
  show SetTable.below t.place (t.place.getD i 0 + 1) = i + 1
  rw [Array.getD_eq_getD_getElem?, hg]
  exact q7S ht hg
theorem z0l (ho : q0H w = false) (hd : (!t.plain && decide (es.size > 1)) = false) (ht : Tab t (!q0H w)) (hf : t.fits es.size = true) (hne : a ≠ I) :
  Nx prog w I [I, a] es.size (es.toList.map (·.2)) (λ i h => q1j h I a (.int (slotAt t i : Nat) 0) i es.size ep /\ q2J h a es ep t /\ i <= es.size) := by
 have hl : t.led = true := by rw [ht.led, ho]; rfl
 have hz : t.place.size = es.size := by
  unfold SetTable.fits at hf
  rw [Bool.and_eq_true] at hf
  exact beq_iff_eq.mp hf.1
 refine z2Q (by simp) (by rw [List.length_map, Array.length_toList]) (λ i h h' st k => ⟨st.1.at (k I (by simp)), st.2.1.at (k a (by simp)), st.2.2⟩) (λ A E Q s i v hh hv st hQ => ?_) (λ A E Q s hh st hQ => ?_) λ A E Q s i st h => q6v st.1 h
 ·obtain ⟨z, he⟩ : ∃ z, es[i]? = some (z, v) := by
   rw [List.getElem?_map, Array.getElem?_toList] at hv
   cases q : es[i]? with
   | none => rw [q] at hv; cases hv
   | some e => rw [q] at hv; cases hv; exact ⟨e.1, rfl⟩
  have hi : i < es.size := by
   rcases Nat.lt_or_ge i es.size with h | h
   ·exact h
   ·rw [Array.getElem?_eq_none h] at he; cases he
  have hg : t.place[i]? = some t.place[i] := Array.getElem?_eq_getElem (by omega)
  have hb := q3z ht.rise (i := i) (by omega)
  have hj : slotAt t (i + 1) = t.place[i] + 1 := by
   show t.place.getD i 0 + 1 = _
   rw [Array.getD_eq_getD_getElem?, hg]
   rfl
  refine q7n (slot := slotAt t i) (j := slotAt t (i + 1)) (x := v) st.1 st.2.1 hf (λ A E' Q' q => z1z ho hd hl st.2.1 hf (by rw [hb, he, hg]; rw [hj] at q; exact q)) λ h' st' sb => ?_
  exact hQ h' ⟨st', st.2.1.at (q4Z sb hne), hi⟩ sb
 ·have hb := q3z ht.rise (i := es.size) (by omega)
  refine q8v (slot := slotAt t es.size) hh st.1 st.2.1 hf (λ A E' Q' q => z1z ho hd hl st.2.1 hf (by rw [hb, Array.getElem?_eq_none (Nat.le_refl _)]; exact q)) hQ
theorem q8g {q : Addr} {l : List Nat} (hp : l.Perm (List.range es.size)) (hf : t.fits es.size = true) (hne : a ≠ I) (hq : q ≠ I) :
  Nx prog w I [I, a, q] es.size (l.map λ i => (es.getD i (0, .none)).2) (λ i h => q1j h I a (.ref q) i es.size ep /\ q2J h a es ep t /\ IsTup h q (l.map λ (i : Nat) => Value.int i 0).toArray) := by
 have hl : l.length = es.size := by rw [hp.length_eq, List.length_range]
 refine z2Q (by simp) (by rw [List.length_map, hl]) (λ i h h' st k => ⟨st.1.at (k I (by simp)), st.2.1.at (k a (by simp)), let ⟨o, e, r⟩ := st.2.2; ⟨o, k q (by simp) o e, r⟩⟩) (λ A E Q s i v hh hv st hQ => ?_) (λ A E Q s hh st hQ => ?_) λ A E Q s i st h => q6v st.1 h
 ·obtain ⟨k, hk, hkv⟩ : ∃ k, l[i]? = some k /\ (es.getD k (0, .none)).2 = v := by
   rw [List.getElem?_map] at hv
   cases q : l[i]? with
   | none => rw [q] at hv; cases hv
   | some k => rw [q] at hv; cases hv; exact ⟨k, rfl, rfl⟩
  have hks : k < es.size := by
   have := hp.mem_iff.mp (List.mem_iff_getElem?.mpr ⟨i, hk⟩)
   exact List.mem_range.mp this
  have he : es[k]? = some es[k] := Array.getElem?_eq_getElem hks
  have hv2 : es[k].2 = v := by
   rw [← hkv, Array.getD_eq_getD_getElem?, he]
   rfl
  refine z0p (k := k) (z := es[k].1) (x := v) st.1 st.2.1 hf st.2.2 (by rw [← Array.getElem?_toList, List.toList_toArray, List.getElem?_map, hk]; rfl) (by rw [he, ← hv2]) λ h' st' sb => ?_
  exact hQ h' ⟨st', st.2.1.at (q4Z sb hne), let ⟨o, e, r⟩ := st.2.2; ⟨o, q4Z sb hq o e, r⟩⟩ sb
 ·refine z2G hh st.1 st.2.1 hf st.2.2 (Array.getElem?_eq_none (by rw [List.size_toArray, List.length_map]; omega)) hQ
end
end L2
end
section
namespace L2
open PySem PyProof.Rows
section
variable {prog : Program} {w : World} {A : Around} {E : Value -> Shared -> Prop} {s : Shared} {I a : Addr} {es : Array (Int × Value)} {ep : Nat} {t : SetTable} {ks : List Int}
theorem z0k (hT : s.TypeIs (.ref a) "set") {Q : Bool -> Shared -> Prop} (h : Q false s) : wpAny (model prog w) A (Builtin.List.listLengthHint (.ref a)) Q E s := by
 unfold Builtin.List.listLengthHint
 refine wpAny_bind (wpAny_specialOf hT F.slot_set_len.lookup ?_)
 generalize hid : ("set.__len__" : String) = id0
 wp_delta
 rw [show splitId id0 = some ("set", "__len__") from by subst hid; decide +kernel]
 subst hid
 refine wpAny_bind (wpAny_isInstance (T := "set") (b := true) hT (by rw [isSubtype_type]; kernel_rfl) ?_)
 refine wpAny_ite_split (λ z => absurd z (by decide)) λ _ => ?_
 refine wpAny_ite_split (λ _ => ?_) λ z => absurd (by decide +kernel) z
 exact wpAny_bind (wpAny_typeOf hT (wpAny_pure h))
theorem q6S {S : Addr} {fp : List Addr} {n c0 : Nat} {ws : List Value} {St : Nat -> Heap -> Prop} {c : Bool -> Bool} {s1 : Shared} {res : Value} {R : Result -> Shared -> Prop} {EE : Value -> Shared -> Prop} (W : Nx prog w I fp n ws St) (hh : A.handled = none) (hn : n <= sizeLine) (hSf : S ∉ fp)
  (hT : s1.TypeIs (.ref a) "set") (st : St 0 s1.heap) (hS : s1.heap.get? S = some { cls := .type "list", data := .seq #[] c0 })
  (hR : ∀ h' tk acc c', (∀ b o, b ≠ S -> b ≠ I -> s1.heap.get? b = some o -> h'.get? b = some o) -> h'.get? S = some { cls := .type "list", dict := none, data := .seq acc c', slots := #[] } -> acc.toList = ws -> R (.ok (.ret res)) { s1 with heap := h', toks := tk }) (hw : ws.length = n) :
  wpAny (model prog w) A.in1 (do
   let room ← holding [Value.ref I] (Builtin.List.listLengthHint (.ref a))
   if c room = true then do
    rule "list.extend.makes-room"
    Builtin.List.listTouch (.ref S)
    again (.builtin "list.extend.loop" ⟨[.ref S, .ref I, res], []⟩)
   else again (.builtin "list.extend.loop" ⟨[.ref S, .ref I, res], []⟩))
   (λ fin s' => match fin with | .done f => R (.ok f) s' | .again c' => c'.quiet = true /\ codeAny (model prog w) A c' R s') EE s1 := by
 have loop : ∀ (h : Heap) (c1 tk : Nat), St 0 h -> (∀ b o, b ≠ S -> s1.heap.get? b = some o -> h.get? b = some o) -> h.get? S = some { cls := .type "list", data := .seq #[] c1 } ->
   codeAny (model prog w) A (.builtin "list.extend.loop" ⟨[.ref S, .ref I, res], []⟩) R { s1 with heap := h, toks := tk } := λ h c1 tk st1 k e => by
  refine codeAny_extend_loopS (W A.in1 hh) hn S hSf res n 0 _ #[] c1 rfl (Nat.zero_le _) st1 e (ItemsOf.nil _) λ s' acc c' hm e' ac => ?_
  have b1 : s' = { s1 with heap := s'.heap, toks := s'.toks } := by
   have q1 : s'.gens = s1.gens := hm.gens
   have q2 : s'.drawn = s1.drawn := hm.drawn
   have q3 : s'.os = s1.os := hm.os
   obtain ⟨h', g', d', t', o'⟩ := s'
   dsimp only at q1 q2 q3
   subst q1
   subst q2
   subst q3
   rfl
  rw [b1]
  refine hR s'.heap s'.toks acc c' (λ b o hb hi q => hm.heap b o (λ z => ?_) (k b o hb q)) e' ?_
  ·rcases List.mem_cons.mp z with z | z
   ·exact hb z
   ·exact hi (List.mem_singleton.mp z)
  ·refine List.ext_getElem? λ j => ?_
   by_cases hj : j < n
   ·have hj' : j < acc.size := by rw [ac.1]; exact hj
    have q1 : acc[j]? = some acc[j] := Array.getElem?_eq_getElem hj'
    rw [Array.getElem?_toList, q1]
    exact (ac.2 j _ q1).symm
   ·rw [List.getElem?_eq_none (by rw [Array.length_toList, ac.1]; omega), List.getElem?_eq_none (by omega)]
 refine wpAny_bind (wpAny_holding (z0k hT ?_))
 refine wpAny_ite_split (λ _ => ?_) λ _ => wpAny_pure ⟨plainId_quiet F.plain_extend_loop _, loop s1.heap c0 s1.toks st (λ b o _ e => e) hS⟩
 refine wpAny_bind (wpAny_rule (wpAny_bind ?_))
 show wpAny (model prog w) A.in1 (updateSeq S (·.push .none) >>= λ _ => updateSeq S (·.pop)) _ _ _
 refine wpAny_bind (wpAny_updateSeq hS rfl ?_)
 have e2 := Heap.get?_update_self (Obj.mapSeq (·.push Value.none)) hS rfl
 refine wpAny_updateSeq (hz := by seq_fits) e2 rfl ?_
 have e3 := Heap.get?_update_self (Obj.mapSeq (·.pop)) e2 rfl
 have oth : ∀ b o, b ≠ S -> s1.heap.get? b = some o -> ((s1.heap.update S (Obj.mapSeq (·.push Value.none))).update S (Obj.mapSeq (·.pop))).get? b = some o := λ b o hb e =>
  (Heap.get?_update_other _ _ (Ne.symm hb)).trans ((Heap.get?_update_other _ _ (Ne.symm hb)).trans e)
 refine wpAny_pure ⟨plainId_quiet F.plain_extend_loop _, loop _ _ s1.toks ?_ oth e3⟩
 exact (W A.in1 hh).frame 0 s1 _ s1.toks st (Nat.le_refl _) λ b hb o e => oth b o (λ z => hSf (z ▸ hb)) e
noncomputable def EndC (s : Shared) (a : Addr) (ws : List Value) (I : Addr) (d : Drawn) (r : Result) (s' : Shared) : Prop :=
 ∃ h' tk acc c', r = .ok (.ret (.ref s.heap.objs.size)) /\ s' = { s with heap := h', toks := tk, drawn := d } /\ h'.get? s.heap.objs.size = some { cls := .type "list", dict := none, data := .seq acc c', slots := #[] } /\ acc.toList = ws /\
  ∀ b o, b ≠ s.heap.objs.size -> b ≠ I -> s.heap.get? b = some o -> h'.get? b = some o
theorem q6y {Q : List Value -> Shared -> Prop} (hh : A.handled = none) (hS : SetI prog w s.heap a ks)
  (h : ∀ vs h' tk d, IntsAre vs (vs.map q3n) -> (vs.map q3n).Perm ks -> (∀ b o, s.heap.get? b = some o -> h'.get? b = some o) -> s.heap.objs.size < h'.objs.size -> Q vs { s with heap := h', toks := tk, drawn := d }) : wpAny (model prog w) A (collect (.ref a)) Q E s := by
 obtain ⟨o, es, ep, t, ho, hx, hd, hel, hp, hb, hf, ht⟩ := id hS
 have hz : es.size <= sizeLine := fits_of_scanBound hb
 have hInts : ∀ vs : List Value, vs.Perm (es.toList.map (·.2)) -> IntsAre vs (vs.map q3n) /\ (vs.map q3n).Perm ks := λ vs p => by
  refine ⟨?_, (p.map _).trans (by rw [List.map_map]; exact hp)⟩
  have all : ∀ v ∈ vs, ∃ tk, v = .int (q3n v) tk := λ v hv => by
   obtain ⟨e, he, q⟩ := List.mem_map.mp (p.mem_iff.mp hv)
   obtain ⟨tk, e2⟩ := q7g hel he
   exact ⟨tk, by rw [← q]; exact e2⟩
  clear p
  induction vs with
  | nil => exact .nil
  | cons v r ih =>
   obtain ⟨tk, e⟩ := all v (List.mem_cons_self ..)
   rw [List.map_cons]
   have q := ih λ u hu => all u (List.mem_cons_of_mem _ hu)
   generalize hn : q3n v = n at e
   subst e
   exact .cons n tk q
 have hat : a < s.heap.objs.size := Heap.lt_size ho
 unfold collect
 refine wpAny_bind (wpAny_runValue (codeAny_builtin F.entry_proto_collect ?_))
 rw [Around.under_plainId F.plain_proto_collect]
 show wpAny (model prog w) A.in1 (newList [] >>= λ l => again (.builtin "list.__iadd__" ⟨[l, .ref a], []⟩)) _ _ s
 refine wpAny_bind (wpAny_newObj_type ?_)
 refine wpAny_pure ⟨plainId_quiet F.plain_list_iadd _, codeAny_builtin F.entry_list_iadd ?_⟩
 rw [Around.under_plainId F.plain_list_iadd]
 have hS1 : (s.heap.push { cls := .type "list", data := .seq ([] : List Value).toArray }).get? s.heap.objs.size = some { cls := .type "list", data := .seq ([] : List Value).toArray } := Heap.get?_push_size _ rfl
 have hA1 : q2J (s.heap.push { cls := .type "list", data := .seq ([] : List Value).toArray }) a es ep t := ⟨o, Heap.get?_push_of_some _ ho, hx, hd⟩
 show wpAny (model prog w) A.in1 (Builtin.List.listExtendWith (.ref s.heap.objs.size) (.ref a) (.ref s.heap.objs.size)) _ _ _
 unfold Builtin.List.listExtendWith
 refine wpAny_bind (wpAny_typeOf (T := "set") ⟨o, Heap.get?_push_of_some _ ho, hx.1⟩ ?_)
 have h1 : Builtin.List.listSameRef (.ref s.heap.objs.size) (.ref a) = false := by
  unfold Builtin.List.listSameRef
  exact beq_eq_false_iff_ne.mpr (Nat.ne_of_gt hat)
 have h2 : (Value.type "set" == Value.type "list") = false := by decide
 have h3 : (Value.type "set" == Value.type "tuple") = false := by decide
 simp only [h1, h2, h3, Bool.or_false, Bool.false_eq_true, if_false]
 refine wpAny_bind (z0z (t := t) hA1 hf hz ?_ ?_)
 ·intro hnd
  have hne : a ≠ (s.heap.push { cls := .type "list", data := .seq ([] : List Value).toArray }).objs.size := by rw [Heap.size_push]; exact Nat.ne_of_lt (Nat.lt_succ_of_lt hat)
  have hSf : s.heap.objs.size ∉ [(s.heap.push { cls := .type "list", data := .seq ([] : List Value).toArray }).objs.size, a] := λ z => by
   rw [Heap.size_push] at z
   rcases List.mem_cons.mp z with z | z
   ·exact absurd z (Nat.ne_of_lt (Nat.lt_succ_self _))
   ·exact absurd (List.mem_singleton.mp z) (Nat.ne_of_gt hat)
  obtain ⟨ws, St, p, W, st⟩ : ∃ ws St, ws.Perm (es.toList.map (·.2)) /\ Nx prog w (s.heap.push { cls := .type "list", data := .seq ([] : List Value).toArray }).objs.size [(s.heap.push { cls := .type "list", data := .seq ([] : List Value).toArray }).objs.size, a] es.size ws St /\
    St 0 ((s.heap.push { cls := .type "list", data := .seq ([] : List Value).toArray }).push (q6L (.int 0 0) a es.size ep)) := by
   by_cases hot : q0H w = true
   ·exact ⟨_, _, (q2N _ es).map _, q9A (t := t) (ep := ep) hot hf hne, q4V, hA1.at λ _ => Heap.get?_push_of_some _⟩
   ·have hot : q0H w = false := by simpa using hot
    rw [hot] at hnd
    exact ⟨_, _, .rfl, z0l (ep := ep) hot (by simpa using hnd) ht hf hne, q4V, hA1.at λ _ => Heap.get?_push_of_some _, Nat.zero_le _⟩
  refine wpAny_mono (q6S (A := A) (a := a) (c0 := 0) (s1 := { s with heap := (s.heap.push { cls := .type "list", data := .seq ([] : List Value).toArray }).push (q6L (.int 0 0) a es.size ep) }) (R := EndC s a ws (s.heap.push { cls := .type "list", data := .seq ([] : List Value).toArray }).objs.size s.drawn)
   W hh hz hSf ⟨o, Heap.get?_push_of_some _ (Heap.get?_push_of_some _ ho), hx.1⟩ st (Heap.get?_push_of_some _ hS1) (λ h' tk acc c' k e ea => ⟨h', tk, acc, c', rfl, rfl, e, ea, λ b u h1 h2 q => k b u h1 h2 (Heap.get?_push_of_some _ (Heap.get?_push_of_some _ q))⟩) (by rw [p.length_eq, List.length_map, Array.length_toList])) ?_ λ _ _ e => e
  have tail : ∀ r s', EndC s a ws (s.heap.push { cls := .type "list", data := .seq ([] : List Value).toArray }).objs.size s.drawn r s' -> ∃ h' tk acc c', r = .ok (.ret (.ref s.heap.objs.size)) /\ s' = { s with heap := h', toks := tk } /\ h'.get? s.heap.objs.size = some { cls := .type "list", dict := none, data := .seq acc c', slots := #[] } /\ Q acc.toList s' := λ r s' ⟨h', tk, acc, c', e1, e2, e, ea, k⟩ => by
   obtain ⟨q1, q2⟩ := hInts ws p
   refine ⟨h', tk, acc, c', e1, e2, e, ?_⟩
   rw [ea, e2]
   refine h ws h' tk s.drawn q1 q2 (λ b u q => k b u (Nat.ne_of_lt (Heap.lt_size q)) ?_ q) (Heap.lt_size e)
   rw [Heap.size_push]
   exact Nat.ne_of_lt (Nat.lt_succ_of_lt (Heap.lt_size q))
  intro fin s' hf'
  cases fin with
  | done f =>
   obtain ⟨h', tk, acc, c', e1, e2, e, hq⟩ := tail _ _ hf'
   cases e1
   subst e2
   exact wpAny_bind (wpAny_load e (wpAny_pure hq))
  | again c' =>
   refine ⟨hf'.1, codeAny_mono hf'.2 λ r s' hr => ?_⟩
   obtain ⟨h', tk, acc, c', e1, e2, e, hq⟩ := tail _ _ hr
   subst e1
   subst e2
   exact wpAny_bind (wpAny_load e (wpAny_pure hq))
 ·intro l d hot pl
  have z1 : (s.heap.push { cls := .type "list", data := .seq ([] : List Value).toArray }).objs.size = s.heap.objs.size + 1 := Heap.size_push _ _
  have hl : l.length = es.size := by rw [pl.length_eq, List.length_range]
  have p : (l.map λ i => (es.getD i (0, .none)).2).Perm (es.toList.map (·.2)) := by
   refine (pl.map _).trans (List.Perm.of_eq ?_)
   refine List.ext_getElem? λ j => ?_
   have e1 : es.toList[j]? = es[j]? := Array.getElem?_toList
   rw [List.getElem?_map, List.getElem?_map, e1]
   by_cases hj : j < es.size
   ·rw [List.getElem?_range hj, Option.map_some, Array.getD_eq_getD_getElem?, Array.getElem?_eq_getElem hj]
    rfl
   ·have e2 : (List.range es.size)[j]? = none := List.getElem?_eq_none (by rw [List.length_range]; omega)
    rw [e2, Array.getElem?_eq_none (by omega)]
    rfl
  have hne : a ≠ (s.heap.push { cls := .type "list", data := .seq ([] : List Value).toArray }).objs.size + 1 := by rw [z1]; exact Nat.ne_of_lt (Nat.lt_succ_of_lt (Nat.lt_succ_of_lt hat))
  have hqe : (s.heap.push { cls := .type "list", data := .seq ([] : List Value).toArray }).objs.size ≠ (s.heap.push { cls := .type "list", data := .seq ([] : List Value).toArray }).objs.size + 1 := Nat.ne_of_lt (Nat.lt_succ_self _)
  have hSf : s.heap.objs.size ∉ [(s.heap.push { cls := .type "list", data := .seq ([] : List Value).toArray }).objs.size + 1, a, (s.heap.push { cls := .type "list", data := .seq ([] : List Value).toArray }).objs.size] := λ z => by
   rw [z1] at z
   rcases List.mem_cons.mp z with z | z
   ·exact absurd z (Nat.ne_of_lt (Nat.lt_succ_of_lt (Nat.lt_succ_self _)))
   ·rcases List.mem_cons.mp z with z | z
    ·exact absurd z (Nat.ne_of_gt hat)
    ·exact absurd (List.mem_singleton.mp z) (Nat.ne_of_lt (Nat.lt_succ_self _))
  have W := q8g (prog := prog) (w := w) (ep := ep) (t := t) pl hf hne hqe
  have hI : q1j (((s.heap.push { cls := .type "list", data := .seq ([] : List Value).toArray }).push (q8B l)).push (q6L (.ref (s.heap.push { cls := .type "list", data := .seq ([] : List Value).toArray }).objs.size) a es.size ep))
    ((s.heap.push { cls := .type "list", data := .seq ([] : List Value).toArray }).objs.size + 1) a (.ref (s.heap.push { cls := .type "list", data := .seq ([] : List Value).toArray }).objs.size) 0 es.size ep := by
   have := q4V (a := a) (ep := ep) (h := (s.heap.push { cls := .type "list", data := .seq ([] : List Value).toArray }).push (q8B l)) (f := .ref (s.heap.push { cls := .type "list", data := .seq ([] : List Value).toArray }).objs.size) (n := es.size)
   have z2 : ((s.heap.push { cls := .type "list", data := .seq ([] : List Value).toArray }).push (q8B l)).objs.size = (s.heap.push { cls := .type "list", data := .seq ([] : List Value).toArray }).objs.size + 1 := Heap.size_push _ _
   rw [z2] at this
   exact this
  refine wpAny_mono (q6S (A := A) (a := a) (c0 := 0) (s1 := { s with heap := ((s.heap.push { cls := .type "list", data := .seq ([] : List Value).toArray }).push (q8B l)).push (q6L (.ref (s.heap.push { cls := .type "list", data := .seq ([] : List Value).toArray }).objs.size) a es.size ep), drawn := d }) (R := EndC s a (l.map λ i => (es.getD i (0, .none)).2) ((s.heap.push { cls := .type "list", data := .seq ([] : List Value).toArray }).objs.size + 1) d)
   W hh hz hSf ⟨o, Heap.get?_push_of_some _ (Heap.get?_push_of_some _ (Heap.get?_push_of_some _ ho)), hx.1⟩ ⟨hI, hA1.at λ _ e => Heap.get?_push_of_some _ (Heap.get?_push_of_some _ e), ⟨_, Heap.get?_push_of_some _ (Heap.get?_push_size _ rfl), rfl, _, rfl⟩⟩ (Heap.get?_push_of_some _ (Heap.get?_push_of_some _ hS1)) (λ h' tk acc c' k e ea => ⟨h', tk, acc, c', rfl, rfl, e, ea, λ b u h1 h2 q => k b u h1 h2 (Heap.get?_push_of_some _ (Heap.get?_push_of_some _ (Heap.get?_push_of_some _ q)))⟩) (by rw [p.length_eq, List.length_map, Array.length_toList])) ?_ λ _ _ e => e
  have tail : ∀ r s', EndC s a (l.map λ i => (es.getD i (0, .none)).2) ((s.heap.push { cls := .type "list", data := .seq ([] : List Value).toArray }).objs.size + 1) d r s' -> ∃ h' tk acc c', r = .ok (.ret (.ref s.heap.objs.size)) /\ s' = { s with heap := h', toks := tk, drawn := d } /\ h'.get? s.heap.objs.size = some { cls := .type "list", dict := none, data := .seq acc c', slots := #[] } /\ Q acc.toList s' := λ r s' ⟨h', tk, acc, c', e1, e2, e, ea, k⟩ => by
   obtain ⟨q1, q2⟩ := hInts _ p
   refine ⟨h', tk, acc, c', e1, e2, e, ?_⟩
   rw [ea, e2]
   refine h _ h' tk d q1 q2 (λ b u q => k b u (Nat.ne_of_lt (Heap.lt_size q)) ?_ q) (Heap.lt_size e)
   rw [z1]
   exact Nat.ne_of_lt (Nat.lt_succ_of_lt (Nat.lt_succ_of_lt (Heap.lt_size q)))
  intro fin s' hf'
  cases fin with
  | done f =>
   obtain ⟨h', tk, acc, c', e1, e2, e, hq⟩ := tail _ _ hf'
   cases e1
   subst e2
   exact wpAny_bind (wpAny_load e (wpAny_pure hq))
  | again c' =>
   refine ⟨hf'.1, codeAny_mono hf'.2 λ r s' hr => ?_⟩
   obtain ⟨h', tk, acc, c', e1, e2, e, hq⟩ := tail _ _ hr
   subst e1
   subst e2
   exact wpAny_bind (wpAny_load e (wpAny_pure hq))
theorem q7F {Q : Value -> Shared -> Prop} (hh : A.handled = none) (hS : SetI prog w s.heap a ks) (h64 : ks.length < 64)
  (h : ∀ h' tk d p vs ns e, (∀ b o, s.heap.get? b = some o -> h'.get? b = some o) -> s.heap.objs.size <= p -> h'.get? p = some (seqObj "list" vs e) -> IntsAre vs.toList ns -> ns.Perm ks -> ns.Pairwise (· <= ·) -> Q (.ref p) { s with heap := h', toks := tk, drawn := d }) :
  wpAny (model prog w) A (call (.builtin "sorted") [.ref a]) Q E s := by
 refine Calls.call_function_entry kind_sorted plain_sorted entry_sorted (args_sorted1 _) ?_
 unfold Builtin.«sorted»
 refine wpAny_bind (m := checkCount "sorted" 1 1 _) (wpAny_pure ?_)
 refine wpAny_bind (q6y (by exact hh) hS λ vs h1 tk d i1 p1 k1 z1 => ?_)
 have hl : vs.length < 64 := by
  have := p1.length_eq
  rw [List.length_map] at this
  omega
 refine wpAny_bind (wpAny_newList ?_ (by rw [sizeLine_eq]; omega))
 have hL : (h1.push (seqObj "list" vs.toArray 0)).get? h1.objs.size = some (seqObj "list" vs.toArray 0) := Heap.get?_push_size _ rfl
 refine wpAny_bind (wpAny_holding (wpAny_call_entry slot_list_sort ⟨_, hL, rfl⟩ entry_list_sort (list_sort_tree hL i1 hl λ out ns q1 q2 q3 => ⟨_, rfl, ?_⟩) (args_list_sort _)))
 refine wpAny_pure ⟨_, rfl, ?_⟩
 obtain ⟨e, he⟩ := sortedHeap_at (out := out) hL
 refine h _ tk d _ out ns e (λ b o q => ?_) (Nat.le_of_lt z1) he q1 (q2.trans p1) q3
 have hb := Heap.lt_size (k1 b o q)
 rw [sortedHeap_old (Nat.ne_of_lt hb) (by rw [size_push']; exact Nat.lt_succ_of_lt hb)]
 exact Heap.get?_push_of_some _ (k1 b o q)
end
end L2
end
section
namespace L2
open PySem PySem.Spec PyProof.Rows
section
variable {prog : Program} {w : World} {A : Around} {E : Value -> Shared -> Prop} {s : Shared}
theorem z6Z {l : List Int} {i : Nat} (h : i < l.length) : l.getD i 0 ∈ l := by
 rw [List.getD_eq_getElem?_getD, List.getElem?_eq_getElem h]
 exact List.getElem_mem h
theorem minL {l : Addr} {vs : List Value} {ns : List Int} {Q : Value -> Shared -> Prop} (hh : A.handled = none) (hl : s.heap.IsList l vs.toArray) (hi : IntsAre vs ns) (hz : ns ≠ [])
  (h : ∀ h' M (t : Tok) tk, (∀ b o, s.heap.get? b = some o -> h'.get? b = some o) -> M ∈ ns -> (∀ a ∈ ns, M <= a) -> Q (.int M t) { s with heap := h', toks := tk }) : wpAny (model prog w) A (call (.builtin "min") [.ref l]) Q E s := by
 obtain ⟨ys, e⟩ := hi.allInts.items
 have en : ns = ys.toList.map (·.1) := by rw [← hi.numsOf, ← nums_intItems, ← e]
 have zy : 0 < ys.size := by
  have q : 0 < ns.length := List.length_pos_iff.mpr hz
  rwa [en, List.length_map, Array.length_toList] at q
 rw [e] at hl
 refine min_intList hh hl zy λ v h1 tk q k => ?_
 obtain ⟨t, ev⟩ := intItems_at q
 subst ev
 obtain ⟨g1, g2⟩ := argBest_lt (numAt ys) (ys.size - 1)
 refine h h1 _ t tk k ?_ λ a ha => ?_
 ·rw [en, numAt_eq]
  exact z6Z (by rw [List.length_map, Array.length_toList]; omega)
 ·rw [en] at ha
  obtain ⟨j, hj, ej⟩ := mem_getD ha
  subst ej
  rw [List.length_map, Array.length_toList] at hj
  rw [← numAt_eq]
  exact g2 j (by omega)
end
section
variable {X : Cx} {pos : Pos}
theorem z2k : ∀ {ns : List Int} {us : List Value}, Vals (ns.map V.int) us -> IntsAre us ns
 | [], us, h => by cases h; exact .nil
 | n :: ns, us, h => by
  cases h with
  | cons r t =>
   obtain ⟨tk, rfl⟩ := r
   exact .cons n tk (z2k t)
theorem z5L : ∀ {ns : List Int} {us : List Value}, IntsAre us ns -> Vals (ns.map V.int) us
 | _, _, .nil => .nil
 | _, _, .cons n t h => .cons ⟨t, rfl⟩ (z5L h)
theorem q8U (hc : X.calm = true) : q2h X (.builtin "min") (λ xs H Q => ∃ (a : Addr) (ns : List Int), xs = [.ref a] /\ SqL X.K H a (ns.map V.int) /\ ns ≠ [] /\ ∀ M, M ∈ ns -> (∀ x ∈ ns, M <= x) -> Q (.int M) H) := by
 intro pins s σ H xs us Q I r h
 obtain ⟨a, ns, rfl, hq, hz, q⟩ := h
 obtain ⟨u, rfl, r1⟩ := q5e r
 cases r1
 obtain ⟨its, rv, pl, _⟩ := I.list hq
 exact minL (I.ok.hd hc) pl.isList (z2k rv) hz λ h' M t tk k m1 m2 => ⟨.int M, H, I.kept k, ⟨t, rfl⟩, q M m1 m2⟩
noncomputable def setO (P : Program) (w : World) (a : Addr) (ks : List Int) : HO := .ext λ h => SetI P w h a ks
theorem z2I {P : Program} {w : World} {H : Hp} {h : Heap} {a : Addr} {ks : List Int} (x : SetI P w h a ks) : q1V P w H h a (setO P w a ks) :=
 ⟨x, let ⟨o, _, _, _, e, _⟩ := x; ⟨o, e⟩, λ h1 h2 q k => q.at k⟩
theorem z3k (ns : List Int) : fm (λ i => ns.getD i 0) ns.length = ns.foldl dk [] := by
 unfold fm
 congr 1
 refine List.ext_getElem? λ j => ?_
 rw [List.getElem?_map]
 by_cases hj : j < ns.length
 ·rw [List.getElem?_range hj, Option.map_some, List.getD_eq_getElem?_getD, List.getElem?_eq_getElem hj]
  rfl
 ·rw [List.getElem?_eq_none (by rw [List.length_range]; omega), List.getElem?_eq_none (by omega)]
  rfl
theorem q9R (hc : X.calm = true) : q2h X (.type "set") (λ xs H Q => ∃ (a : Addr) (ns : List Int), xs = [.ref a] /\ SqL X.K H a (ns.map V.int) /\ ns.length < 4000 /\ ∀ p, H p = none -> Q (.ref p) (upd H p (setO X.prog X.w p (ns.foldl dk [])))) := by
 intro pins s σ H xs us Q I r h
 obtain ⟨a, ns, rfl, hq, hz, q⟩ := h
 obtain ⟨u, rfl, r1⟩ := q5e r
 cases r1
 obtain ⟨its, rv, pl, _⟩ := I.list hq
 have hi := z2k rv
 have hl : its.length = ns.length := by rw [← rv.length, List.length_map]
 refine z4z (I.ok.hd hc) pl.isList hi (by rw [List.size_toArray, hl]; show _ < 4096; omega) λ h' tk S k => ?_
 have hz2 : its.toArray.size = ns.length := by rw [List.size_toArray, hl]
 rw [hz2, z3k] at S
 exact ⟨.ref s.heap.objs.size, _, I.laid k (Nat.le_refl _) (z2I S), rfl, q _ I.fresh⟩
theorem q8b (hc : X.calm = true) : q2h X (.builtin "sorted") (λ xs H Q => ∃ (p : Addr) (ks : List Int), xs = [.ref p] /\ H p = some (setO X.prog X.w p ks) /\ ks.length < 64 /\ ∀ (q : Addr) (ms : List Int), H q = none -> ms.Perm ks -> ms.Pairwise (· <= ·) -> Q (.ref q) (upd H q (.lst (ms.map V.int)))) := by
 intro pins s σ H xs us Q I r h
 obtain ⟨p, ks, rfl, hH, hz, q⟩ := h
 obtain ⟨u, rfl, r1⟩ := q5e r
 cases r1
 have S : SetI X.prog X.w s.heap p ks := (I.hok p _ hH).1
 refine q7F (I.ok.hd hc) S hz λ h' tk d p' vs ns e k hp he hi hpm hpw => ?_
 have hv := z5L hi
 have hl : ns.length <= sizeLine := by
  rw [hpm.length_eq, sizeLine_eq]
  omega
 have ok : q1V X.prog X.w (upd H p' (.lst (ns.map V.int))) h' p' (.lst (ns.map V.int)) := ⟨by rw [List.length_map]; exact hl, vs.toList, e, hv, by rw [Array.toArray_toList]; exact he⟩
 have I1 := I.laid (t' := tk) k hp ok
 refine ⟨.ref p', _, ?_, rfl, q p' ns (I.hok.fresh hp) hpm hpw⟩
 exact ⟨I1.ok, I1.os, I1.bare, I1.base, I1.loc, I1.cell, I1.free, I1.freeC, I1.pin, I1.hok, I1.len⟩
end
end L2
end
section
namespace L2
open PySem
structure Sg where
 N : List Str
 sc : List (Str × NameKind)
 fn : List Str
 bl : List Str
 cl : List Str
 top : Bool
 lp : Bool
noncomputable def z3s : List Str := ["ValueError"]
noncomputable def q0O : Expr -> Option Str | .Name x _ => some x | _ => none
noncomputable def q2r : Expr -> Option Const | .Constant c _ _ => some c | _ => none
noncomputable def z0O : Expr -> Option (Expr × Operator × Expr) | .BinOp a o b _ => some (a, o, b) | _ => none
noncomputable def asUn : Expr -> Option (UnaryOp × Expr) | .UnaryOp o a _ => some (o, a) | _ => none
noncomputable def z0J : Expr -> Option (Expr × List CmpOp × List Expr) | .Compare a o b _ => some (a, o, b) | _ => none
noncomputable def q7o : Expr -> Option (BoolOp × List Expr) | .BoolOp o es _ => some (o, es) | _ => none
noncomputable def asIf : Expr -> Option (Expr × Expr × Expr) | .IfExp c a b _ => some (c, a, b) | _ => none
noncomputable def q8z : Expr -> Option (List Expr) | .List es _ => some es | _ => none
noncomputable def q2I : Expr -> Option (List Expr) | .Tuple es _ _ => some es | _ => none
noncomputable def q5t : Expr -> Option (Expr × Expr) | .Subscript a b _ => some (a, b) | _ => none
noncomputable def q3W : Expr -> Option (Option Expr × Option Expr × Option Expr) | .Slice a b c _ => some (a, b, c) | _ => none
noncomputable def q1f : Expr -> Option (Expr × List Expr × List Keyword × Pos) | .Call f as ks p => some (f, as, ks, p) | _ => none
noncomputable def q3C : Expr -> Option (Expr × Str × Pos) | .Attribute a n p => some (a, n, p) | _ => none
noncomputable def q9a : Expr -> Option (Expr × List Comprehension × Scope) | .ListComp e gs sc _ => some (e, gs, sc) | _ => none
noncomputable def q0p : Expr -> Bool | .Starred _ _ => true | _ => false
noncomputable def q4i : Expr -> Bool | .Slice _ _ _ _ => true | _ => false
noncomputable def q2H : Expr -> Bool | .Set _ _ _ => true | _ => false
noncomputable def q4B : Expr -> Bool | .ListComp _ _ _ _ => true | .SetComp _ _ _ _ => true | .DictComp _ _ _ _ _ => true | _ => false
theorem q0G {e : Expr} {x : Str} (h : q0O e = some x) : ∃ p, e = .Name x p := by
 cases e <;> simp [q0O] at h; subst h; exact ⟨_, rfl⟩
theorem q4F {e : Expr} {x : Const} (h : q2r e = some x) : ∃ k p, e = .Constant x k p := by
 cases e <;> simp [q2r] at h; subst h; exact ⟨_, _, rfl⟩
theorem q4X {e a b : Expr} {o : Operator} (h : z0O e = some (a, o, b)) : ∃ p, e = .BinOp a o b p := by
 cases e <;> simp [z0O] at h; obtain ⟨rfl, rfl, rfl⟩ := h; exact ⟨_, rfl⟩
theorem q5p {e a : Expr} {o : UnaryOp} (h : asUn e = some (o, a)) : ∃ p, e = .UnaryOp o a p := by
 cases e <;> simp [asUn] at h; obtain ⟨rfl, rfl⟩ := h; exact ⟨_, rfl⟩
theorem q3Q {e a : Expr} {os : List CmpOp} {bs : List Expr} (h : z0J e = some (a, os, bs)) : ∃ p, e = .Compare a os bs p := by
 cases e <;> simp [z0J] at h; obtain ⟨rfl, rfl, rfl⟩ := h; exact ⟨_, rfl⟩
theorem q3d {e : Expr} {o : BoolOp} {es : List Expr} (h : q7o e = some (o, es)) : ∃ p, e = .BoolOp o es p := by
 cases e <;> simp [q7o] at h; obtain ⟨rfl, rfl⟩ := h; exact ⟨_, rfl⟩
theorem q8n {e c a b : Expr} (h : asIf e = some (c, a, b)) : ∃ p, e = .IfExp c a b p := by
 cases e <;> simp [asIf] at h; obtain ⟨rfl, rfl, rfl⟩ := h; exact ⟨_, rfl⟩
theorem q5K {e : Expr} {es : List Expr} (h : q8z e = some es) : ∃ p, e = .List es p := by
 cases e <;> simp [q8z] at h; subst h; exact ⟨_, rfl⟩
theorem q3f {e : Expr} {es : List Expr} (h : q2I e = some es) : ∃ k p, e = .Tuple es k p := by
 cases e <;> simp [q2I] at h; subst h; exact ⟨_, _, rfl⟩
theorem q1k {e a b : Expr} (h : q5t e = some (a, b)) : ∃ p, e = .Subscript a b p := by
 cases e <;> simp [q5t] at h; obtain ⟨rfl, rfl⟩ := h; exact ⟨_, rfl⟩
theorem q3k {e : Expr} {a b c : Option Expr} (h : q3W e = some (a, b, c)) : ∃ p, e = .Slice a b c p := by
 cases e <;> simp [q3W] at h; obtain ⟨rfl, rfl, rfl⟩ := h; exact ⟨_, rfl⟩
theorem q0E {e f : Expr} {as : List Expr} {ks : List Keyword} {p : Pos} (h : q1f e = some (f, as, ks, p)) : e = .Call f as ks p := by
 cases e <;> simp [q1f] at h; obtain ⟨rfl, rfl, rfl, rfl⟩ := h; rfl
theorem q5T {e a : Expr} {n : Str} {p : Pos} (h : q3C e = some (a, n, p)) : e = .Attribute a n p := by
 cases e <;> simp [q3C] at h; obtain ⟨rfl, rfl, rfl⟩ := h; rfl
theorem q9w {e x : Expr} {gs : List Comprehension} {sc : Scope} (h : q9a e = some (x, gs, sc)) : ∃ p, e = .ListComp x gs sc p := by
 cases e <;> simp [q9a] at h; obtain ⟨rfl, rfl, rfl⟩ := h; exact ⟨_, rfl⟩
noncomputable def visB (sg : Sg) (x : Str) : Bool := sg.sc.lookup x == some .local || sg.sc.lookup x == some .cell || sg.sc.lookup x == some .free
noncomputable def gloB (sg : Sg) (x : Str) : Bool := sg.sc.lookup x == some .globalImplicit
noncomputable def locB (sg : Sg) (x : Str) : Bool := sg.sc.lookup x == some .local || sg.sc.lookup x == some .cell
noncomputable def q5R (sg : Sg) (i : Nat) (x : Str) : Bool := sg.N[i]? == some x && visB sg x && x != "__debug__" && x != "__classdict__"
noncomputable def bltB (sg : Sg) (x : Str) (f : Expr) : Bool := q0O f == some x && gloB sg x && sg.bl.contains x
noncomputable def z4l : Bi -> Str
 | .len => "len" | .abs => "abs" | .min => "min" | .max => "max" | .sum => "sum" | .any => "any" | .all => "all" | .sorted => "sorted" | .sset => "sorted" | .lset => "len"
 | .int => "int" | .list => "list" | .tuple => "tuple" | .str => "str" | .lrng => "list"
noncomputable def z1B : Mt -> Str
 | .bitLength => "bit_length" | .index => "index" | .get => "get"
structure CParts where
 elt : Expr
 tg : Expr
 it : Expr
 ifs : List Expr
 sc : Scope
noncomputable def q4z (e : Expr) : Option CParts := match q9a e with
 | some (elt, [⟨tg, it, ifs, a⟩], sc) => if a = 0 then some ⟨elt, tg, it, ifs, sc⟩ else none
 | _ => none
theorem q3Y {e : Expr} {c : CParts} (h : q4z e = some c) : ∃ p, e = .ListComp c.elt [⟨c.tg, c.it, c.ifs, 0⟩] c.sc p := by
 unfold q4z at h
 split at h
 ·rename_i elt tg it ifs a sc q
  split at h
  ·rename_i ha
   cases h
   subst ha
   exact q9w q
  ·cases h
 ·cases h
noncomputable def q1A (sg : Sg) (tn : List Str) (fr : List (Option Nat)) : List Str := tn ++ (fr.drop tn.length).map λ o => match o with | some i => sg.N.getD i "" | none => ""
noncomputable def q8k : Tg -> Expr -> Option (List Str)
 | .one _, e => (q0O e).map λ x => [x]
 | .many is, e => match q2I e with
  | some es => if es.length = is.length then es.mapM q0O else none
  | none => none
noncomputable def tgOk (sg : Sg) : Tg -> Expr -> Bool
 | .one i, e => match q0O e with
  | some x => sg.N[i]? == some x && locB sg x
  | none => false
 | .many is, e => match q2I e with
  | some es => es.length == is.length && 2 <= es.length && (is.zip es).all λ p => match q0O p.2 with
   | some x => sg.N[p.1]? == some x && locB sg x
   | none => false
  | none => false
noncomputable def q4D : List Str -> Bool
 | [] => true
 | x :: r => !r.contains x && q4D r
noncomputable def q2R : Tg -> List Nat
 | .one i => [i]
 | .many is => is
noncomputable def q2S (sg : Sg) (N' : List Str) (fr : List (Option Nat)) (sc : Scope) (tg : Tg) : Bool := (q2R tg).all (λ i => fr[i]? == some none) &&
 sc.kind == .function && q4D N' && q4D (sc.names.map (·.1)) && fr.length == N'.length &&
 (fr.zip N').all (λ p => match p.1 with | some i => sg.N[i]? == some p.2 && sc.names.contains (p.2, .free) | none => true) &&
 sc.names.all λ y => if y.2 == .free then sg.sc.lookup y.1 == some .cell || sg.sc.lookup y.1 == some .free else true
noncomputable def q9E : ME -> Bool
 | .comp _ _ _ _ => true
 | .compi _ _ _ _ _ => true
 | _ => false
noncomputable def isZp : ME -> Bool
 | .zp _ _ => true
 | .enu _ => true
 | _ => false
mutual
noncomputable def corE (sg : Sg) (w : Bool) : ME -> Expr -> Bool
 | .var i, e => match q0O e with | some x => q5R sg i x | none => false
 | .int i, e => q2r e == some (.int i)
 | .bl i, e => q2r e == some (.bool i)
 | .str x, e => q2r e == some (.str x) && decide (x.length <= 1000)
 | .non, e => q2r e == some .none
 | .glb x, e => q0O e == some x && gloB sg x && x != "__debug__"
 | .bin op a b, e => match z0O e with | some (ea, o, eb) => o == op && corE sg false a ea && corE sg false b eb | none => false
 | .neg a, e => match asUn e with | some (o, ea) => o == .USub && corE sg false a ea | none => false
 | .inv a, e => match asUn e with | some (o, ea) => o == .Invert && corE sg false a ea | none => false
 | .not a, e => match asUn e with | some (o, ea) => o == .Not && corE sg false a ea | none => false
 | .cmp op a b, e => match z0J e with | some (ea, [o], [eb]) => o == op && corE sg false a ea && corE sg false b eb && !q2H eb | _ => false
 | .chain op op' a b c, e => match z0J e with | some (ea, [o, o'], [eb, ec]) => o == op && o' == op' && corE sg false a ea && corE sg false b eb && corE sg false c ec && !q2H ec | _ => false
 | .and ms, e => match q7o e with | some (o, es) => o == .And && q0Y sg ms es | none => false
 | .or ms, e => match q7o e with | some (o, es) => o == .Or && q0Y sg ms es | none => false
 | .ite c a b, e => match asIf e with | some (ec, ea, eb) => corE sg false c ec && corE sg false a ea && corE sg false b eb | none => false
 | .lst ms, e => match q8z e with | some es => q0Y sg ms es | none => false
 | .tup ms, e => match q2I e with | some es => q0Y sg ms es | none => false
 | .dct _ _, _ => false
 | .ix a b, e => match q5t e with | some (ea, eb) => corE sg false a ea && corE sg false b eb && !q4i eb | none => false
 | .sl a lo hi, e => match q5t e with
  | some (ea, es) => (match q3W es with | some (some el, some eh, none) => corE sg false a ea && corE sg false lo el && corE sg false hi eh | _ => false)
  | none => false
 | .slf a lo, e => match q5t e with
  | some (ea, es) => (match q3W es with | some (some el, none, none) => corE sg false a ea && corE sg false lo el | _ => false)
  | none => false
 | .slt a hi, e => match q5t e with
  | some (ea, es) => (match q3W es with | some (none, some eh, none) => corE sg false a ea && corE sg false hi eh | _ => false)
  | none => false
 | .call f ms, e => match q1f e with
  | some (ef, es, [], _) => (match q0O ef with | some x => sg.fn[f]? == some x && gloB sg x && x != "__debug__" | none => false) && !es.isEmpty && q0Y sg ms es
  | _ => false
 | .bi f ms, e => match q1f e with
  | some (ef, es, [], _) => bltB sg (z4l f) ef && !es.isEmpty && (match f with
   | .sset | .lset => (match es with
    | [e1] => (match q1f e1 with
     | some (ef', es', [], _) => bltB sg "set" ef' && es'.length == 1 && q0Y sg ms es'
     | _ => false)
    | _ => false)
   | .lrng => (match es with
    | [e1] => (match q1f e1 with
     | some (ef', es', [], _) => bltB sg "range" ef' && es'.length == 1 && q0Y sg ms es'
     | _ => false)
    | _ => false)
   | _ => q0Y sg ms es)
  | _ => false
 | .isi a ts, e => match q1f e with
  | some (ef, [ea, et], [], _) => bltB sg "isinstance" ef && corE sg false a ea && !q0p ea && !q0p et && (match ts with
   | [t] => q0O et == some t && gloB sg t && sg.bl.contains t && q2u.contains t
   | _ => false)
  | _ => false
 | .isx a t, e => match q1f e with
  | some (ef, [ea, et], [], _) => bltB sg "isinstance" ef && corE sg false a ea && !q0p ea && !q0p et && q0O et == some t && gloB sg t && ((sg.cl.contains t && t != "__debug__") || (sg.bl.contains t && z3s.contains t))
  | _ => false
 | .meth m a ms, e => match q1f e with
  | some (ef, [], [], pos) => (match q3C ef with
   | some (ea, n, apos) => n == z1B m && corE sg false a ea && ((q0O ea).isSome || (z0O ea).isSome) && apos.endLine == pos.line && ms.isEmpty
   | none => false)
  | _ => false
 | .comp elt tg it fr, e => match q4z e with
  | some c => c.ifs.isEmpty && (corE sg true it c.it && (!isZp it || (q2I c.tg).isSome)) && !q2H c.it && (match q8k tg c.tg with
   | some tn => q2S sg (q1A sg tn fr) fr c.sc tg && tgOk ⟨q1A sg tn fr, c.sc.names, sg.fn, sg.bl, sg.cl, false, true⟩ tg c.tg && corE ⟨q1A sg tn fr, c.sc.names, sg.fn, sg.bl, sg.cl, false, true⟩ false elt c.elt
   | none => false)
  | none => false
 | .compi elt tg it cd fr, e => match q4z e with
  | some c => (corE sg true it c.it && (!isZp it || (q2I c.tg).isSome)) && !q2H c.it && (match q8k tg c.tg, c.ifs with
   | some tn, [ec] => q2S sg (q1A sg tn fr) fr c.sc tg && tgOk ⟨q1A sg tn fr, c.sc.names, sg.fn, sg.bl, sg.cl, false, true⟩ tg c.tg && corE ⟨q1A sg tn fr, c.sc.names, sg.fn, sg.bl, sg.cl, false, true⟩ false elt c.elt && corE ⟨q1A sg tn fr, c.sc.names, sg.fn, sg.bl, sg.cl, false, true⟩ false cd ec
   | _, _ => false)
  | none => false
 | .idx a b, e => match q1f e with
  | some (ef, [eb], [], pos) => (match q3C ef with
   | some (ea, n, apos) => n == "index" && corE sg false a ea && (q0O ea).isSome && apos.endLine == pos.line && corE sg false b eb && !q0p eb
   | none => false)
  | _ => false
 | .gdx x b, e => match q5t e with | some (ea, eb) => q0O ea == some x && gloB sg x && x != "__debug__" && corE sg false b eb && !q4i eb | none => false
 | .rng ms, e => w && (match q1f e with
  | some (ef, es, [], _) => bltB sg "range" ef && q0Y sg ms es && decide (es.length <= 3)
  | _ => false)
 | .zp a b, e => w && (match q1f e with
  | some (ef, [ea, eb], [], _) => bltB sg "zip" ef && corE sg false a ea && corE sg false b eb && !q0p ea && !q0p eb
  | _ => false)
 | .enu a, e => w && (match q1f e with
  | some (ef, [ea], [], _) => bltB sg "enumerate" ef && corE sg false a ea && !q0p ea
  | _ => false)
 | .itm _, _ => false
 | .rvs a, e => w && (match q1f e with
  | some (ef, [er], [], _) => bltB sg "reversed" ef && (match q1f er with
   | some (eg, [ea], [], _) => bltB sg "range" eg && corE sg false a ea && !q0p ea
   | _ => false)
  | _ => false)
noncomputable def q0Y (sg : Sg) : List ME -> List Expr -> Bool
 | [], [] => true
 | m :: ms, e :: es => corE sg false m e && !q0p e && q0Y sg ms es
 | _, _ => false
end
noncomputable def q7l (sg : Sg) : List Nat -> List Expr -> Bool
 | [], [] => true
 | i :: is, e :: es => (match q0O e with | some x => sg.N[i]? == some x && locB sg x | none => false) && q7l sg is es
 | _, _ => false
noncomputable def q8E : ExceptHandler -> Option (Option Expr × Option Str × List Stmt) | .ExceptHandler t n b _ => some (t, n, b)
mutual
noncomputable def corS (sg : Sg) : MS -> Stmt -> Bool
 | .set i _ e, s => match s with
  | .Assign [t] v pos => (match t with
   | .Name x pt => sg.N[i]? == some x && locB sg x && corE sg false e v && (!q4B v || q9E e)
   | _ => false)
  | _ => false
 | .sett is e, s => match s with
  | .Assign [t] v _ => tgOk sg (.many is) t && corE sg false e v && (q2I v).isNone && !q4B v
  | _ => false
 | .par is es, s => match s with
  | .Assign [t] v _ => (match q2I t, q2I v with | some ts, some vs => ts.length == 2 && q7l sg is ts && q0Y sg es vs | _, _ => false)
  | _ => false
 | .aug i e, s => match s with
  | .AugAssign t o v _ => o == .Add && (match q0O t with | some x => sg.N[i]? == some x && locB sg x | none => false) && corE sg false e v
  | _ => false
 | .app i e, s => match s with
  | .Expr v _ => (match q1f v with
   | some (ef, [ea], [], pos) => (match q3C ef with
    | some (o, n, apos) => n == "append" && (match q0O o with | some x => q5R sg i x | none => false) && corE sg false e ea && !q0p ea && apos.endLine == pos.line
    | none => false)
   | _ => false)
  | _ => false
 | .ext i e, s => match s with
  | .Expr v _ => (match q1f v with
   | some (ef, [ea], [], pos) => (match q3C ef with
    | some (o, n, apos) => n == "extend" && (match q0O o with | some x => q5R sg i x | none => false) && corE sg false e ea && !q0p ea && apos.endLine == pos.line
    | none => false)
   | _ => false)
  | _ => false
 | .seti i k e, s => match s with
  | .Assign [t] v _ => (match q5t t with
   | some (o, ek) => (match q0O o with | some x => q5R sg i x | none => false) && corE sg false k ek && !q4i ek && corE sg false e v
   | none => false)
  | _ => false
 | .clr i, s => match s with
  | .Expr v _ => (match q1f v with
   | some (ef, [], [], pos) => (match q3C ef with
    | some (o, n, apos) => n == "clear" && (match q0O o with | some x => q5R sg i x | none => false) && apos.endLine == pos.line
    | none => false)
   | _ => false)
  | _ => false
 | .pop _ _, _ => false
 | .exp e, s => match s with
  | .Expr v _ => corE sg false e v && !q4B v
  | _ => false
 | .ret e, s => match s with
  | .Return (some v) _ => corE sg false e v
  | _ => false
 | .ret0 ms, s => match s with
  | .Return (some v) _ => (match q2I v with | some es => q0Y sg ms es | none => false)
  | _ => false
 | .app0 i e, s => match s with
  | .Expr v _ => (match q1f v with
   | some (ef, [ea], [], pos) => (match q3C ef with
    | some (o, n, apos) => n == "append" && (match q5t o with
     | some (ob, oi) => (match q0O ob with | some x => q5R sg i x | none => false) && q2r oi == some (.int 0)
     | none => false) && corE sg false e ea && !q0p ea && apos.endLine == pos.line
    | none => false)
   | _ => false)
  | _ => false
 | .retn, s => match s with
  | .Return none _ => true
  | _ => false
 | .iff c a b, s => match s with
  | .If ec ea eb _ => corE sg false c ec && q2K sg a ea && q2K sg b eb
  | _ => false
 | .fo tg it body, s => match s with
  | .For t i b [] _ => sg.lp && tgOk sg tg t && (corE sg true it i && (!isZp it || (q2I t).isSome)) && !q2H i && q2K sg body b
  | _ => false
 | .wh c body, s => match s with
  | .While t b [] _ => sg.lp && corE sg false c t && q2K sg body b
  | _ => false
 | .rse c e, s => match s with
  | .Raise (some v) none _ => (match q1f v with
   | some (ef, [ea], [], _) => sg.top && q0O ef == some c && gloB sg c && c != "__debug__" && corE sg false e ea && !q0p ea
   | _ => false)
  | _ => false
 | .tryc body c ie ic, s => match s with
  | .Try b [h] [] [] _ => sg.top && q2K ⟨sg.N, sg.sc, sg.fn, sg.bl, sg.cl, false, false⟩ body b && (match q8E h with
   | some (some t, some n, [.Assign [t2] v2 _]) => q0O t == some c && gloB sg c && c != "__debug__" && sg.cl.contains c && sg.N[ie]? == some n && sg.sc.lookup n == some .local && n != "__debug__" && n != "__classdict__" &&
     q0O v2 == some n && (match q0O t2 with | some x => sg.N[ic]? == some x && locB sg x | none => false) && ie != ic
   | _ => false)
  | _ => false
 | .pas, s => match s with
  | .Pass _ => true
  | _ => false
 | .frz _, _ => false
noncomputable def q2K (sg : Sg) : List MS -> List Stmt -> Bool
 | [], [] => true
 | .frz _ :: ms, ss => q2K sg ms ss
 | m :: ms, s :: ss => corS sg m s && q2K sg ms ss
 | _, _ => false
end
end L2
end
section
namespace L2
open PySem PySem.Spec PyProof.Rows
structure Dm where
 K : PySem.W.Frag
 mg : Str -> Option Value
noncomputable abbrev Cx.D (X : Cx) : Dm := ⟨X.K, X.mg⟩
noncomputable def SqS (K : PySem.W.Frag) (H : Hp) (a : Addr) (xs : List V) : Prop := (∃ o, H a = some (.frz o (.lst xs))) \/
 ∃ (o : Obj) (its : Array Value) (n : Nat), K.lookup a = some o /\ o.cls = .type "list" /\ o.dict = none /\ o.data = .seq its n /\ its.size <= sizeLine /\ Vals xs its.toList
theorem SqS.sq {K : PySem.W.Frag} {H : Hp} {a : Addr} {xs : List V} (h : SqS K H a xs) : SqL K H a xs := by
 rcases h with h | h
 ·exact .inl (.inr h)
 ·exact .inr h
theorem SqS.of {K : PySem.W.Frag} {H : Hp} {a : Addr} {xs : List V} (hO : Only H) (h : SqL K H a xs) : SqS K H a xs := by
 rcases h with (h | h) | h
 ·rcases hO a with z | ⟨o, ys, z⟩
  ·rw [h] at z; cases z
  ·rw [h] at z; cases z
 ·exact .inl h
 ·exact .inr h
theorem Same.sqs {K : PySem.W.Frag} {H H' : Hp} {a : Addr} {xs : List V} (e : Same H H') (h : SqS K H a xs) : SqS K H' a xs := by
 rcases h with ⟨o, h⟩ | h
 ·exact .inl ⟨o, e _ _ h⟩
 ·exact .inr h
mutual
noncomputable def Rep (D : Dm) (H : Hp) : DV -> V -> Prop
 | .non, v => v = .non
 | .bl b, v => v = .bl b
 | .int i, v => v = .int i
 | .str x, v => v = .str x /\ x.length <= sizeLine
 | .tup ds, v => ∃ a xs, v = .ref a /\ SqT D.K H a xs /\ RepL D H ds xs
 | .lst ds, v => ∃ a xs, v = .ref a /\ H a = some (.lst xs) /\ RepL D H ds xs
 | .dct _ _, _ => False
 | .exc c, v => ∃ a C, v = .ref a /\ D.mg c = some C /\ H a = some (excO a C)
 | .fn x, v => ∃ f, v = .ref f /\ D.mg x = some (.ref f)
 | .scr ns, v => ∃ a, v = .ref a /\ SqS D.K H a (ns.map V.int)
noncomputable def RepL (D : Dm) (H : Hp) : List DV -> List V -> Prop
 | [], xs => xs = []
 | d :: ds, xs => ∃ v vs, xs = v :: vs /\ Rep D H d v /\ RepL D H ds vs
end
theorem Same.tseq {K : PySem.W.Frag} {H H' : Hp} {a : Addr} {xs : List V} (e : Same H H') (h : SqT K H a xs) : SqT K H' a xs := by
 rcases h with (h | ⟨o, h⟩) | h
 ·exact .inl (.inl (e _ _ h))
 ·exact .inl (.inr ⟨o, e _ _ h⟩)
 ·exact .inr h
mutual
theorem Rep.mono {D : Dm} {H H' : Hp} (e : Same H H') : ∀ {d : DV} {v : V}, Rep D H d v -> Rep D H' d v
 | .non, _, h => by unfold Rep at h ⊢; exact h
 | .bl _, _, h => by unfold Rep at h ⊢; exact h
 | .int _, _, h => by unfold Rep at h ⊢; exact h
 | .str _, _, h => by unfold Rep at h ⊢; exact h
 | .tup ds, _, h => by
  unfold Rep at h ⊢
  obtain ⟨a, xs, e1, e2, e3⟩ := h
  exact ⟨a, xs, e1, e.tseq e2, RepL.mono e e3⟩
 | .lst ds, _, h => by
  unfold Rep at h ⊢
  obtain ⟨a, xs, e1, e2, e3⟩ := h
  exact ⟨a, xs, e1, e _ _ e2, RepL.mono e e3⟩
 | .dct _ _, _, h => by unfold Rep at h; exact h.elim
 | .exc C, _, h => by
  unfold Rep at h ⊢
  obtain ⟨a, C, e1, e2, e3⟩ := h
  exact ⟨a, C, e1, e2, e _ _ e3⟩
 | .fn _, _, h => by unfold Rep at h ⊢; exact h
 | .scr _, _, h => by
  unfold Rep at h ⊢
  obtain ⟨a, e1, e2⟩ := h
  exact ⟨a, e1, e.sqs e2⟩
theorem RepL.mono {D : Dm} {H H' : Hp} (e : Same H H') : ∀ {ds : List DV} {xs : List V}, RepL D H ds xs -> RepL D H' ds xs
 | [], _, h => by unfold RepL at h ⊢; exact h
 | d :: ds, _, h => by
  unfold RepL at h ⊢
  obtain ⟨v, vs, e1, e2, e3⟩ := h
  exact ⟨v, vs, e1, Rep.mono e e2, RepL.mono e e3⟩
end
section
variable {D : Dm} {H H' : Hp} {v : V} {xs ys : List V} {ds es : List DV} {d : DV}
theorem q0B {i : Int} : Rep D H (.int i) v ↔ v = .int i := by unfold Rep; exact Iff.rfl
theorem q4f {i : Bool} : Rep D H (.bl i) v ↔ v = .bl i := by unfold Rep; exact Iff.rfl
theorem q2c {i : Str} : Rep D H (.str i) v ↔ (v = .str i /\ i.length <= sizeLine) := by unfold Rep; exact Iff.rfl
theorem q2x : Rep D H .non v ↔ v = .non := by unfold Rep; exact Iff.rfl
theorem q0S : Rep D H (.tup ds) v ↔ ∃ a xs, v = .ref a /\ SqT D.K H a xs /\ RepL D H ds xs := by unfold Rep; exact Iff.rfl
theorem q0L : Rep D H (.lst ds) v ↔ ∃ a xs, v = .ref a /\ H a = some (.lst xs) /\ RepL D H ds xs := by unfold Rep; exact Iff.rfl
theorem z2m {c : Str} : Rep D H (.exc c) v ↔ ∃ a C, v = .ref a /\ D.mg c = some C /\ H a = some (excO a C) := by unfold Rep; exact Iff.rfl
theorem z4Z {x : Str} : Rep D H (.fn x) v ↔ ∃ f, v = .ref f /\ D.mg x = some (.ref f) := by unfold Rep; exact Iff.rfl
theorem q1M {ns : List Int} : Rep D H (.scr ns) v ↔ ∃ a, v = .ref a /\ SqS D.K H a (ns.map V.int) := by unfold Rep; exact Iff.rfl
theorem q3y {ks : List DKey} {vs : List DV} : ¬ Rep D H (.dct ks vs) v := by intro h; unfold Rep at h; exact h
theorem q0C : RepL D H [] xs ↔ xs = [] := by unfold RepL; exact Iff.rfl
theorem q0m : RepL D H (d :: ds) xs ↔ ∃ v vs, xs = v :: vs /\ Rep D H d v /\ RepL D H ds vs := by
 constructor
 ·intro h; unfold RepL at h; exact h
 ·intro h; unfold RepL; exact h
end
theorem RepL.length {D : Dm} {H : Hp} : ∀ {ds : List DV} {xs : List V}, RepL D H ds xs -> xs.length = ds.length
 | [], _, h => by rw [q0C.mp h]; rfl
 | d :: ds, _, h => by
  obtain ⟨v, vs, e1, _, e3⟩ := q0m.mp h
  rw [e1, List.length_cons, List.length_cons, RepL.length e3]
theorem RepL.get {D : Dm} {H : Hp} : ∀ {ds : List DV} {xs : List V} {i : Nat} {d : DV}, RepL D H ds xs -> ds[i]? = some d -> ∃ v, xs[i]? = some v /\ Rep D H d v
 | [], _, _, _, _, e => by simp at e
 | d :: ds, _, i, d', h, e => by
  obtain ⟨v, vs, e1, e2, e3⟩ := q0m.mp h
  subst e1
  cases i with
  | zero => simp at e; subst e; exact ⟨v, rfl, e2⟩
  | succ i => simpa using RepL.get (i := i) e3 (by simpa using e)
theorem RepL.append {D : Dm} {H : Hp} : ∀ {ds es : List DV} {xs ys : List V}, RepL D H ds xs -> RepL D H es ys -> RepL D H (ds ++ es) (xs ++ ys)
 | [], _, _, _, h, h' => by rw [q0C.mp h]; exact h'
 | d :: ds, _, _, _, h, h' => by
  obtain ⟨v, vs, e1, e2, e3⟩ := q0m.mp h
  subst e1
  exact q0m.mpr ⟨v, _, rfl, e2, RepL.append e3 h'⟩
theorem RepL.one {D : Dm} {H : Hp} {d : DV} {v : V} (h : Rep D H d v) : RepL D H [d] [v] := q0m.mpr ⟨v, [], rfl, h, q0C.mpr rfl⟩
theorem RepL.take {D : Dm} {H : Hp} : ∀ {ds : List DV} {xs : List V} (n : Nat), RepL D H ds xs -> RepL D H (ds.take n) (xs.take n)
 | _, _, 0, _ => q0C.mpr rfl
 | [], _, n + 1, h => by rw [q0C.mp h]; exact q0C.mpr rfl
 | d :: ds, _, n + 1, h => by
  obtain ⟨v, vs, e1, e2, e3⟩ := q0m.mp h
  subst e1
  exact q0m.mpr ⟨v, _, rfl, e2, RepL.take n e3⟩
theorem RepL.drop {D : Dm} {H : Hp} : ∀ {ds : List DV} {xs : List V} (n : Nat), RepL D H ds xs -> RepL D H (ds.drop n) (xs.drop n)
 | _, _, 0, h => h
 | [], _, n + 1, h => by rw [q0C.mp h]; exact q0C.mpr rfl
 | d :: ds, _, n + 1, h => by
  obtain ⟨v, vs, e1, e2, e3⟩ := q0m.mp h
  subst e1
  exact RepL.drop n e3
theorem RepL.set {D : Dm} {H : Hp} {d : DV} {v : V} (q : Rep D H d v) : ∀ {ds : List DV} {xs : List V} (n : Nat), RepL D H ds xs -> RepL D H (ds.set n d) (xs.set n v)
 | [], _, n, h => by rw [q0C.mp h]; exact q0C.mpr rfl
 | _ :: ds, _, 0, h => by
  obtain ⟨v, vs, e1, e2, e3⟩ := q0m.mp h
  subst e1
  exact q0m.mpr ⟨_, _, rfl, q, e3⟩
 | _ :: ds, _, n + 1, h => by
  obtain ⟨v, vs, e1, e2, e3⟩ := q0m.mp h
  subst e1
  exact q0m.mpr ⟨_, _, rfl, e2, RepL.set q n e3⟩
theorem RepL.rep {D : Dm} {H : Hp} {ds : List DV} {xs : List V} (h : RepL D H ds xs) : ∀ k : Nat, RepL D H (List.replicate k ds).flatten (List.replicate k xs).flatten
 | 0 => q0C.mpr rfl
 | k + 1 => by
  rw [List.replicate_succ, List.replicate_succ, List.flatten_cons, List.flatten_cons]
  exact h.append (RepL.rep h k)
theorem q1Q {D : Dm} {H : Hp} : ∀ (ns : List Int), RepL D H (ns.map DV.int) (ns.map V.int)
 | [] => q0C.mpr rfl
 | n :: ns => q0m.mpr ⟨_, _, rfl, q0B.mpr rfl, q1Q ns⟩
noncomputable def wo (O : List Addr) (H : Hp) : Hp := λ b => if b ∈ O then none else H b
theorem z5u {O : List Addr} {H : Hp} {b : Addr} (h : b ∈ O) : wo O H b = none := if_pos h
theorem q0A {O : List Addr} {H : Hp} {b : Addr} (h : b ∉ O) : wo O H b = H b := if_neg h
theorem q1e {O : List Addr} {H : Hp} {b : Addr} {o : HO} (h : wo O H b = some o) : b ∉ O /\ H b = some o := by
 by_cases hb : b ∈ O
 ·rw [z5u hb] at h; cases h
 ·rw [q0A hb] at h; exact ⟨hb, h⟩
theorem Same.wo {O : List Addr} {H H' : Hp} (e : Same H H') : Same (wo O H) (wo O H') := λ b o h => by
 obtain ⟨hb, h⟩ := q1e h
 rw [q0A hb]; exact e b o h
theorem q1o {O : List Addr} {H : Hp} : Same (L2.wo O H) H := λ b o h => (q1e h).2
theorem q0Q {O O' : List Addr} {H : Hp} (h : ∀ b ∈ O', b ∈ O) : Same (L2.wo O H) (L2.wo O' H) := λ b o e => by
 obtain ⟨hb, e⟩ := q1e e
 rw [q0A λ z => hb (h b z)]; exact e
theorem q0o {H : Hp} {p : Addr} {o : HO} (h : H p = none) : Same H (upd H p o) := λ b u q => by rw [q0z (q0t q h)]; exact q
structure Hid (O W : List Addr) (H0 H : Hp) : Prop where
 ot : ∀ a ∈ O ++ W, H0 a ≠ none
 same : Same H0 H
 wl : ∀ a ∈ W, ∃ xs, H0 a = some (.lst xs)
 dj : ∀ a ∈ W, a ∉ O
theorem Hid.mono {O W : List Addr} {H0 H H' : Hp} (h : Hid O W H0 H) (e : Same H H') : Hid O W H0 H' := ⟨h.ot, h.same.trans e, h.wl, h.dj⟩
theorem Hid.newOut {O W : List Addr} {H0 H : Hp} (h : Hid O W H0 H) {p : Addr} (hp : H p = none) : p ∉ O ++ W := λ z => h.ot p z (h.same.free hp)
mutual
theorem Rep.immut {D : Dm} {O W : List Addr} {H : Hp} (hw : ∀ a ∈ W, ∃ xs, H a = some (.lst xs)) : ∀ {d : DV} {v : V}, d.immut = true -> Rep D (L2.wo O H) d v -> Rep D (L2.wo (O ++ W) H) d v
 | .non, _, _, h => by unfold Rep at h ⊢; exact h
 | .bl _, _, _, h => by unfold Rep at h ⊢; exact h
 | .int _, _, _, h => by unfold Rep at h ⊢; exact h
 | .str _, _, _, h => by unfold Rep at h ⊢; exact h
 | .tup ds, _, m, h => by
  unfold Rep at h ⊢
  obtain ⟨a, xs, e1, e2, e3⟩ := h
  have m' : DV.immuts ds = true := by unfold DV.immut at m; exact m
  refine ⟨a, xs, e1, ?_, RepL.immut hw m' e3⟩
  rcases e2 with (h | ⟨o, h⟩) | h
  ·obtain ⟨ha, h⟩ := q1e h
   refine .inl (.inl ?_)
   rw [q0A λ z => ?_]
   ·exact h
   ·rcases List.mem_append.mp z with z | z
    ·exact ha z
    ·obtain ⟨ys, q⟩ := hw a z; rw [h] at q; cases q
  ·obtain ⟨ha, h⟩ := q1e h
   refine .inl (.inr ⟨o, ?_⟩)
   rw [q0A λ z => ?_]
   ·exact h
   ·rcases List.mem_append.mp z with z | z
    ·exact ha z
    ·obtain ⟨ys, q⟩ := hw a z; rw [h] at q; cases q
  ·exact .inr h
 | .lst ds, _, m, _ => by unfold DV.immut at m; cases m
 | .dct _ _, _, m, _ => by unfold DV.immut at m; cases m
 | .exc C, _, _, h => by
  unfold Rep at h ⊢
  obtain ⟨a, C, e1, e2, e3⟩ := h
  obtain ⟨ha, h⟩ := q1e e3
  refine ⟨a, C, e1, e2, ?_⟩
  rw [q0A λ z => ?_]
  ·exact h
  ·rcases List.mem_append.mp z with z | z
   ·exact ha z
   ·obtain ⟨ys, q⟩ := hw a z; rw [h] at q; cases q
 | .fn _, _, _, h => by unfold Rep at h ⊢; exact h
 | .scr ns, _, _, h => by
  unfold Rep at h ⊢
  obtain ⟨a, e1, e2⟩ := h
  refine ⟨a, e1, ?_⟩
  rcases e2 with ⟨o, h⟩ | h
  ·obtain ⟨ha, h⟩ := q1e h
   refine .inl ⟨o, ?_⟩
   rw [q0A λ z => ?_]
   ·exact h
   ·rcases List.mem_append.mp z with z | z
    ·exact ha z
    ·obtain ⟨ys, q⟩ := hw a z; rw [h] at q; cases q
  ·exact .inr h
theorem RepL.immut {D : Dm} {O W : List Addr} {H : Hp} (hw : ∀ a ∈ W, ∃ xs, H a = some (.lst xs)) : ∀ {ds : List DV} {xs : List V}, DV.immuts ds = true -> RepL D (L2.wo O H) ds xs -> RepL D (L2.wo (O ++ W) H) ds xs
 | [], _, _, h => by unfold RepL at h ⊢; exact h
 | d :: ds, _, m, h => by
  unfold RepL at h ⊢
  obtain ⟨v, vs, e1, e2, e3⟩ := h
  unfold DV.immuts at m
  rw [Bool.and_eq_true] at m
  exact ⟨v, vs, e1, Rep.immut hw m.1 e2, RepL.immut hw m.2 e3⟩
end
noncomputable def RepT (D : Dm) (W : List Addr) (Ht H : Hp) (d : DV) (v : V) : Prop := match d with
 | .lst ds => ∃ a xs, v = .ref a /\ a ∈ W /\ Ht a = some (.lst xs) /\ RepL D H ds xs
 | d => Rep D H d v
theorem RepT.mono {D : Dm} {W : List Addr} {Ht Ht' H H' : Hp} {d : DV} {v : V} (et : Same Ht Ht') (e : Same H H') (h : RepT D W Ht H d v) : RepT D W Ht' H' d v := by
 cases d with
 | lst ds => obtain ⟨a, xs, e1, e0, e2, e3⟩ := h; exact ⟨a, xs, e1, e0, et _ _ e2, e3.mono e⟩
 | non => exact Rep.mono (D := D) (d := .non) (v := v) e h
 | bl b => exact Rep.mono (D := D) (d := .bl b) (v := v) e h
 | int b => exact Rep.mono (D := D) (d := .int b) (v := v) e h
 | str b => exact Rep.mono (D := D) (d := .str b) (v := v) e h
 | tup b => exact Rep.mono (D := D) (d := .tup b) (v := v) e h
 | dct b c => exact Rep.mono (D := D) (d := .dct b c) (v := v) e h
 | exc b => exact Rep.mono (D := D) (d := .exc b) (v := v) e h
 | fn b => exact Rep.mono (D := D) (d := .fn b) (v := v) e h
 | scr b => exact Rep.mono (D := D) (d := .scr b) (v := v) e h
theorem RepT.rep {D : Dm} {W : List Addr} {Ht H : Hp} {d : DV} {v : V} (e : Same H Ht) (h : RepT D W Ht H d v) : Rep D Ht d v := by
 cases d with
 | lst ds => obtain ⟨a, xs, e1, e0, e2, e3⟩ := h; exact q0L.mpr ⟨a, xs, e1, e2, e3.mono e⟩
 | non => exact Rep.mono (D := D) (d := .non) (v := v) e h
 | bl b => exact Rep.mono (D := D) (d := .bl b) (v := v) e h
 | int b => exact Rep.mono (D := D) (d := .int b) (v := v) e h
 | str b => exact Rep.mono (D := D) (d := .str b) (v := v) e h
 | tup b => exact Rep.mono (D := D) (d := .tup b) (v := v) e h
 | dct b c => exact Rep.mono (D := D) (d := .dct b c) (v := v) e h
 | exc b => exact Rep.mono (D := D) (d := .exc b) (v := v) e h
 | fn b => exact Rep.mono (D := D) (d := .fn b) (v := v) e h
 | scr b => exact Rep.mono (D := D) (d := .scr b) (v := v) e h
noncomputable def Got (D : Dm) (O W : List Addr) (H0 H : Hp) (d : DV) (c : Cl) (v : V) : Prop := match c with
 | .weak => Rep D (L2.wo O H) d v
 | .top => RepT D W (L2.wo O H) (L2.wo (O ++ W) H) d v
 | .strong => Rep D (L2.wo (O ++ W) H) d v
 | .fresh => ∃ p xs ds, v = .ref p /\ d = .lst ds /\ H0 p = none /\ H p = some (.lst xs) /\ RepL D (L2.wo (p :: (O ++ W)) H) ds xs
 | .ft => ∃ t ts p xs ds es, v = .ref t /\ d = .tup (.lst ds :: es) /\ SqT D.K (L2.wo (O ++ W) H) t (.ref p :: ts) /\ H0 p = none /\ H p = some (.lst xs) /\ RepL D (L2.wo (p :: (O ++ W)) H) ds xs /\ RepL D (L2.wo (p :: (O ++ W)) H) es ts
section
variable {D : Dm} {O W : List Addr} {H0 H H' : Hp} {d : DV} {ds : List DV} {c : Cl} {v : V}
theorem q6e : ∀ b ∈ O, b ∈ O ++ W := λ _ h => List.mem_append_left _ h
theorem Got.mono (h : Got D O W H0 H d c v) (e : Same H H') : Got D O W H0 H' d c v := by
 cases c with
 | weak => exact Rep.mono e.wo h
 | top => exact RepT.mono e.wo e.wo h
 | strong => exact Rep.mono e.wo h
 | fresh =>
  obtain ⟨p, xs, ds, e1, e2, e3, e4, e5⟩ := h
  exact ⟨p, xs, ds, e1, e2, e3, e _ _ e4, e5.mono e.wo⟩
 | ft =>
  obtain ⟨t, ts, p, xs, ds, es, e1, e2, e0, e3, e4, e5, e6⟩ := h
  exact ⟨t, ts, p, xs, ds, es, e1, e2, e.wo.tseq e0, e3, e _ _ e4, e5.mono e.wo, e6.mono e.wo⟩
theorem Got.since {H1 : Hp} (h : Got D O W H1 H d c v) (e : Same H0 H1) : Got D O W H0 H d c v := by
 cases c with
 | weak => exact h
 | top => exact h
 | strong => exact h
 | fresh =>
  obtain ⟨p, xs, ds, e1, e2, e3, e4, e5⟩ := h
  exact ⟨p, xs, ds, e1, e2, e.free e3, e4, e5⟩
 | ft =>
  obtain ⟨t, ts, p, xs, ds, es, e1, e2, e0, e3, e4, e5, e6⟩ := h
  exact ⟨t, ts, p, xs, ds, es, e1, e2, e0, e.free e3, e4, e5, e6⟩
theorem Got.ft (h : Got D O W H0 H d .ft v) (hd : Hid O W H0 H) : Rep D (L2.wo (O ++ W) H) d v := by
 obtain ⟨t, ts, p, xs, ds, es, e1, e2, e0, e3, e4, e5, e6⟩ := h
 have hp : p ∉ O ++ W := λ z => hd.ot p z e3
 have up : Same (L2.wo (p :: (O ++ W)) H) (L2.wo (O ++ W) H) := q0Q λ b hb => List.mem_cons_of_mem _ hb
 rw [e2]
 exact q0S.mpr ⟨t, _, e1, e0, q0m.mpr ⟨_, _, rfl, q0L.mpr ⟨p, xs, rfl, by rw [q0A hp]; exact e4, e5.mono up⟩, e6.mono up⟩⟩
theorem Got.strong (h : Got D O W H0 H d .fresh v) (hd : Hid O W H0 H) : Rep D (L2.wo (O ++ W) H) d v := by
 obtain ⟨p, xs, ds, e1, e2, e3, e4, e5⟩ := h
 have hp : p ∉ O ++ W := λ z => hd.ot p z e3
 rw [e2]
 exact q0L.mpr ⟨p, xs, e1, by rw [q0A hp]; exact e4, e5.mono (q0Q λ b hb => List.mem_cons_of_mem _ hb)⟩
theorem Got.weak (h : Got D O W H0 H d c v) (hd : Hid O W H0 H) : Rep D (L2.wo O H) d v := by
 cases c with
 | weak => exact h
 | top => exact RepT.rep (q0Q q6e) h
 | strong => exact Rep.mono (q0Q q6e) h
 | fresh => exact Rep.mono (q0Q q6e) (h.strong hd)
 | ft => exact Rep.mono (q0Q q6e) (h.ft hd)
theorem Got.all (h : Got D O W H0 H d c v) (hd : Hid O W H0 H) : Rep D H d v := Rep.mono q1o (h.weak hd)
theorem Got.stro (h : Got D O W H0 H d c v) (hd : Hid O W H0 H) (hs : L2.stro d c = true) : Rep D (L2.wo (O ++ W) H) d v := by
 cases c with
 | strong => exact h
 | fresh => exact h.strong hd
 | ft => exact h.ft hd
 | weak => exact Rep.immut (λ a ha => by obtain ⟨xs, e⟩ := hd.wl a ha; exact ⟨xs, hd.same _ _ e⟩) hs (h.weak hd)
 | top => exact Rep.immut (λ a ha => by obtain ⟨xs, e⟩ := hd.wl a ha; exact ⟨xs, hd.same _ _ e⟩) hs (h.weak hd)
theorem Got.items (h : Got D O W H0 H (.lst ds) c v) (hd : Hid O W H0 H) (hc : c ≠ .weak) : ∃ a xs, v = .ref a /\ H a = some (.lst xs) /\ RepL D (L2.wo (O ++ W) H) ds xs := by
 cases c with
 | weak => exact absurd rfl hc
 | top =>
  obtain ⟨a, xs, e1, e0, e2, e3⟩ := h
  exact ⟨a, xs, e1, q1o _ _ e2, e3⟩
 | strong =>
  obtain ⟨a, xs, e1, e2, e3⟩ := q0L.mp h
  exact ⟨a, xs, e1, q1o _ _ e2, e3⟩
 | fresh =>
  obtain ⟨a, xs, e1, e2, e3⟩ := q0L.mp (h.strong hd)
  exact ⟨a, xs, e1, q1o _ _ e2, e3⟩
 | ft =>
  obtain ⟨a, xs, e1, e2, e3⟩ := q0L.mp (h.ft hd)
  exact ⟨a, xs, e1, q1o _ _ e2, e3⟩
theorem Got.itemsT (h : Got D O W H0 H (.tup ds) c v) (hd : Hid O W H0 H) (hc : c ≠ .weak) : ∃ a xs, v = .ref a /\ SqT D.K H a xs /\ RepL D (L2.wo (O ++ W) H) ds xs := by
 cases c with
 | weak => exact absurd rfl hc
 | top =>
  obtain ⟨a, xs, e1, e2, e3⟩ := q0S.mp (show Rep D (L2.wo (O ++ W) H) (.tup ds) v from h)
  exact ⟨a, xs, e1, q1o.tseq e2, e3⟩
 | strong =>
  obtain ⟨a, xs, e1, e2, e3⟩ := q0S.mp h
  exact ⟨a, xs, e1, q1o.tseq e2, e3⟩
 | fresh =>
  obtain ⟨p, xs, ds, e1, e2, e3, e4, e5⟩ := h
  cases e2
 | ft =>
  obtain ⟨a, xs, e1, e2, e3⟩ := q0S.mp (h.ft hd)
  exact ⟨a, xs, e1, q1o.tseq e2, e3⟩
theorem Got.lst (h : Got D O W H0 H (.lst ds) c v) (hd : Hid O W H0 H) : ∃ a xs, v = .ref a /\ H a = some (.lst xs) /\ RepL D (L2.wo O H) ds xs := by
 obtain ⟨a, xs, e1, e2, e3⟩ := q0L.mp (h.weak hd)
 exact ⟨a, xs, e1, q1o _ _ e2, e3⟩
theorem Got.tup (h : Got D O W H0 H (.tup ds) c v) (hd : Hid O W H0 H) : ∃ a xs, v = .ref a /\ SqT D.K H a xs /\ RepL D (L2.wo O H) ds xs := by
 obtain ⟨a, xs, e1, e2, e3⟩ := q0S.mp (h.weak hd)
 exact ⟨a, xs, e1, q1o.tseq e2, e3⟩
noncomputable def q1r (O W : List Addr) : Cl -> List Addr
 | .weak => O
 | _ => O ++ W
theorem Got.lstC (h : Got D O W H0 H (.lst ds) c v) (hd : Hid O W H0 H) : ∃ a xs, v = .ref a /\ H a = some (.lst xs) /\ RepL D (L2.wo (q1r O W c) H) ds xs := by
 cases c with
 | weak => exact h.lst hd
 | top => exact h.items hd (by intro z; cases z)
 | strong => exact h.items hd (by intro z; cases z)
 | fresh => exact h.items hd (by intro z; cases z)
 | ft => exact h.items hd (by intro z; cases z)
theorem Got.tupC (h : Got D O W H0 H (.tup ds) c v) (hd : Hid O W H0 H) : ∃ a xs, v = .ref a /\ SqT D.K H a xs /\ RepL D (L2.wo (q1r O W c) H) ds xs := by
 cases c with
 | weak => exact h.tup hd
 | top => exact h.itemsT hd (by intro z; cases z)
 | strong => exact h.itemsT hd (by intro z; cases z)
 | fresh => exact h.itemsT hd (by intro z; cases z)
 | ft => exact h.itemsT hd (by intro z; cases z)
theorem Got.item (h : Rep D (L2.wo (q1r O W c) H) d v) : Got D O W H0 H d c.item v := by
 cases c <;> exact h
theorem q0D {i : Int} (hc : c ≠ .fresh := by intro z; cases z) (hc' : c ≠ .ft := by intro z; cases z) : Got D O W H0 H (.int i) c (.int i) := by
 have q : ∀ H, Rep D H (.int i) (.int i) := λ H => q0B.mpr rfl
 cases c with
 | fresh => exact absurd rfl hc
 | ft => exact absurd rfl hc'
 | weak => exact q (L2.wo O H)
 | strong => exact q (L2.wo (O ++ W) H)
 | top => exact q (L2.wo (O ++ W) H)
theorem q4p {i : Bool} : Got D O W H0 H (.bl i) .strong (.bl i) := (q4f.mpr rfl : Rep D (L2.wo (O ++ W) H) (.bl i) (.bl i))
theorem z3n : Got D O W H0 H .non .strong .non := (q2x.mpr rfl : Rep D (L2.wo (O ++ W) H) .non .non)
theorem Got.int {i : Int} (h : Got D O W H0 H (.int i) c v) (hd : Hid O W H0 H) : v = .int i := q0B.mp (h.weak hd)
theorem Got.bl {i : Bool} (h : Got D O W H0 H (.bl i) c v) (hd : Hid O W H0 H) : v = .bl i := q4f.mp (h.weak hd)
theorem Got.str {x : Str} (h : Got D O W H0 H (.str x) c v) (hd : Hid O W H0 H) : v = .str x /\ x.length <= sizeLine := q2c.mp (h.weak hd)
theorem q1F {p : Addr} {xs : List V} (hd : Hid O W H0 H) (hp : H p = none) (r : RepL D (L2.wo (O ++ W) H) ds xs) : Got D O W H0 (upd H p (.lst xs)) (.lst ds) .fresh (.ref p) := by
 refine ⟨p, xs, ds, rfl, rfl, hd.same.free hp, q1d, r.mono λ b o e => ?_⟩
 obtain ⟨hb, e⟩ := q1e e
 have hbp : b ≠ p := q0t e hp
 rw [q0A (by intro z; rcases List.mem_cons.mp z with z | z; exact hbp z; exact hb z), q0z hbp]
 exact e
theorem q5k {p : Addr} {xs : List V} (hd : Hid O W H0 H) (hp : H p = none) (r : RepL D (L2.wo O H) ds xs) : Got D O W H0 (upd H p (.lst xs)) (.lst ds) .weak (.ref p) := by
 have hpo : p ∉ O := λ z => hd.newOut hp (List.mem_append_left _ z)
 exact q0L.mpr ⟨p, xs, rfl, by rw [q0A hpo]; exact q1d, r.mono (q0o hp).wo⟩
theorem q3S {p : Addr} {xs : List V} (hd : Hid O W H0 H) (hp : H p = none) (r : RepL D (L2.wo (q1r O W c) H) ds xs) : Got D O W H0 (upd H p (.lst xs)) (.lst ds) (Cl.anew c c) (.ref p) := by
 cases c with
 | weak => exact q5k hd hp r
 | top => exact q1F hd hp r
 | strong => exact q1F hd hp r
 | fresh => exact q1F hd hp r
 | ft => exact q1F hd hp r
theorem q3l {p : Addr} {xs : List V} (hd : Hid O W H0 H) (hp : H p = none) (r : RepL D (L2.wo (O ++ W) H) ds xs) : Got D O W H0 (upd H p (.tup xs)) (.tup ds) .strong (.ref p) :=
 q0S.mpr ⟨p, xs, rfl, SqT.of (by rw [q0A (hd.newOut hp)]; exact q1d), r.mono (q0o hp).wo⟩
theorem q5o {p : Addr} {xs : List V} (hd : Hid O W H0 H) (hp : H p = none) (r : RepL D (L2.wo O H) ds xs) : Got D O W H0 (upd H p (.tup xs)) (.tup ds) .weak (.ref p) :=
 q0S.mpr ⟨p, xs, rfl, SqT.of (by rw [q0A λ z => hd.newOut hp (List.mem_append_left _ z)]; exact q1d), r.mono (q0o hp).wo⟩
theorem q7f {p : Addr} {xs : List V} (hd : Hid O W H0 H) (hp : H p = none) (r : RepL D (L2.wo (q1r O W c) H) ds xs) : Got D O W H0 (upd H p (.tup xs)) (.tup ds) c.item (.ref p) := by
 cases c with
 | weak => exact q5o hd hp r
 | top => exact q3l hd hp r
 | strong => exact q3l hd hp r
 | fresh => exact q3l hd hp r
 | ft => exact q3l hd hp r
end
inductive GotL (D : Dm) (O W : List Addr) (H0 H : Hp) : List (DV × Cl) -> List V -> Prop where
 | nil : GotL D O W H0 H [] []
 | cons {d : DV} {c : Cl} {v : V} {l : List (DV × Cl)} {vs : List V} : Got D O W H0 H d c v -> GotL D O W H0 H l vs -> GotL D O W H0 H ((d, c) :: l) (v :: vs)
section
variable {D : Dm} {O W : List Addr} {H0 H H' : Hp}
theorem GotL.repL {l : List (DV × Cl)} {vs : List V} (h : GotL D O W H0 H l vs) (hd : Hid O W H0 H) : RepL D (L2.wo O H) (l.map (·.1)) vs := by
 induction h with
 | nil => exact q0C.mpr rfl
 | cons h _ ih => exact q0m.mpr ⟨_, _, rfl, h.weak hd, ih⟩
theorem GotL.stros {l : List (DV × Cl)} {vs : List V} (h : GotL D O W H0 H l vs) (hd : Hid O W H0 H) (hs : L2.stros l = true) : RepL D (L2.wo (O ++ W) H) (l.map (·.1)) vs := by
 induction h with
 | nil => exact q0C.mpr rfl
 | cons h _ ih =>
  unfold L2.stros at hs
  rw [List.all_cons, Bool.and_eq_true] at hs
  exact q0m.mpr ⟨_, _, rfl, h.stro hd hs.1, ih hs.2⟩
theorem GotL.length {l : List (DV × Cl)} {vs : List V} (h : GotL D O W H0 H l vs) : vs.length = l.length := by
 induction h with
 | nil => rfl
 | cons _ _ ih => rw [List.length_cons, List.length_cons, ih]
theorem GotL.strong {l : List (DV × Cl)} {vs : List V} (h : GotL D O W H0 H l vs) (hd : Hid O W H0 H) (hs : (l.all λ p => p.2 == .strong || p.2 == .fresh) = true) : RepL D (L2.wo (O ++ W) H) (l.map (·.1)) vs := by
 refine h.stros hd ?_
 unfold L2.stros
 rw [List.all_eq_true] at hs ⊢
 intro p hp
 have := hs p hp
 unfold L2.stro
 cases e : p.2 <;> rw [e] at this <;> first | rfl | cases this
theorem GotL.one {d : DV} {c : Cl} {vs : List V} (h : GotL D O W H0 H [(d, c)] vs) : ∃ v, vs = [v] /\ Got D O W H0 H d c v := by
 cases h with
 | cons h t => cases t; exact ⟨_, rfl, h⟩
theorem GotL.two {d d' : DV} {c c' : Cl} {vs : List V} (h : GotL D O W H0 H [(d, c), (d', c')] vs) : ∃ v v', vs = [v, v'] /\ Got D O W H0 H d c v /\ Got D O W H0 H d' c' v' := by
 cases h with
 | cons h t => obtain ⟨v', e, h'⟩ := t.one; subst e; exact ⟨_, _, rfl, h, h'⟩
theorem GotL.three {d d' d2 : DV} {c c' c2 : Cl} {vs : List V} (h : GotL D O W H0 H [(d, c), (d', c'), (d2, c2)] vs) : ∃ v v' v2, vs = [v, v', v2] /\ Got D O W H0 H d c v /\ Got D O W H0 H d' c' v' /\ Got D O W H0 H d2 c2 v2 := by
 cases h with
 | cons h t => obtain ⟨v', v2, e, h', h2⟩ := t.two; subst e; exact ⟨_, _, _, rfl, h, h', h2⟩
end
structure RSt (D : Dm) (H : Hp) (σ : St) (δ : List Sv) (O W : List Addr) : Prop where
 val : ∀ (i : Nat) d, δ[i]? = some (.val d) -> ∃ v, σ[i]? = some (some v) /\ Rep D (L2.wo (O ++ W) H) d v
 own : ∀ (i : Nat) d, δ[i]? = some (.own d) -> ∃ a xs ds, d = .lst ds /\ σ[i]? = some (some (.ref a)) /\ a ∈ W /\ H a = some (.lst xs) /\ RepL D (L2.wo (O ++ W) H) ds xs
 inj : ∀ (i j : Nat) a d d', δ[i]? = some (.own d) -> δ[j]? = some (.own d') -> σ[i]? = some (some (.ref a)) -> σ[j]? = some (some (.ref a)) -> i = j
 ot : ∀ (i : Nat) d, δ[i]? = some (.ot d) -> (∃ t ts p xs ds es, d = .tup (.lst ds :: es) /\ σ[i]? = some (some (.ref t)) /\ SqT D.K (L2.wo (O ++ W) H) t (.ref p :: ts) /\ p ∈ W /\ H p = some (.lst xs) /\ RepL D (L2.wo (O ++ W) H) ds xs /\ RepL D (L2.wo (O ++ W) H) es ts /\
  ∀ (j : Nat) d', δ[j]? = some (.own d') -> σ[j]? ≠ some (some (.ref p))) /\ ∀ (j : Nat) d', δ[j]? = some (.ot d') -> j = i
 len : σ.length = δ.length
 hid : Hid O W H H
theorem Hid.later {O W : List Addr} {H H' : Hp} (h : Hid O W H H) (e : Same H H') : Hid O W H' H' := ⟨λ a ha q => h.ot a ha (e.free q), Same.refl _, λ a ha => by obtain ⟨xs, q⟩ := h.wl a ha; exact ⟨xs, e _ _ q⟩, h.dj⟩
theorem RSt.mono {D : Dm} {H H' : Hp} {σ : St} {δ : List Sv} {O W : List Addr} (R : RSt D H σ δ O W) (e : Same H H') : RSt D H' σ δ O W where
 val := λ i d h => by obtain ⟨v, e1, e2⟩ := R.val i d h; exact ⟨v, e1, e2.mono e.wo⟩
 own := λ i ds h => by obtain ⟨a, xs, ds, e0, e1, e2, e3, e4⟩ := R.own i ds h; exact ⟨a, xs, ds, e0, e1, e2, e _ _ e3, e4.mono e.wo⟩
 inj := R.inj
 ot := λ i d h => by
  obtain ⟨⟨t, ts, p, xs, ds, es, e0, e1, e2, e3, e4, e5, e6, e7⟩, u⟩ := R.ot i d h
  exact ⟨⟨t, ts, p, xs, ds, es, e0, e1, e.wo.tseq e2, e3, e _ _ e4, e5.mono e.wo, e6.mono e.wo, e7⟩, u⟩
 len := R.len
 hid := R.hid.later e
noncomputable def Post (D : Dm) (E : St -> XK) (σ : St) (O W : List Addr) (H0 H : Hp) (Q : VK) : Re -> Prop
 | .ok d c => ∀ v H', Same H H' -> Got D O W H0 H' d c v -> Q v H'
 | .ex c => ∀ H' C, D.mg c = some C -> Same H H' -> E σ C none H'
noncomputable def dE (D : Dm) (E : St -> XK) (δ : List Sv) (r : Re) : TE := λ σ H Q => ∃ O W, RSt D H σ δ O W /\ Post D E σ O W H H Q r
noncomputable def z7d (D : Dm) (E : St -> XK) (σ : St) (O W : List Addr) (H0 H : Hp) (Q : List V -> Hp -> Prop) : Rs -> Prop
 | .ok l => ∀ vs H', Same H H' -> GotL D O W H0 H' l vs -> Q vs H'
 | .ex c => ∀ H' C, D.mg c = some C -> Same H H' -> E σ C none H'
noncomputable def dA (D : Dm) (E : St -> XK) (δ : List Sv) (r : Rs) : TA := λ σ H Q => ∃ O W, RSt D H σ δ O W /\ z7d D E σ O W H H Q r
noncomputable def z0c (D : Dm) (E : St -> XK) (σ : St) (H : Hp) (Q : Bool -> Hp -> Prop) : Rt -> Prop
 | .ok b => ∀ H', Same H H' -> Q b H'
 | .ex c => ∀ H' C, D.mg c = some C -> Same H H' -> E σ C none H'
noncomputable def dT (D : Dm) (E : St -> XK) (δ : List Sv) (r : Rt) : TT := λ σ H Q => ∃ O W, RSt D H σ δ O W /\ z0c D E σ H Q r
theorem Post.step {D : Dm} {E : St -> XK} {σ : St} {O W : List Addr} {H0 H H1 : Hp} {Q : VK} {r : Re} (h : Post D E σ O W H0 H Q r) (e : Same H H1) : Post D E σ O W H0 H1 Q r := by
 cases r with
 | ok d c => exact λ v H' s g => h v H' (e.trans s) g
 | ex c => exact λ H' C m s => h H' C m (e.trans s)
theorem Post.later {D : Dm} {E : St -> XK} {σ : St} {O W : List Addr} {H0 H H1 : Hp} {Q : VK} {r : Re} (h : Post D E σ O W H0 H Q r) (e : Same H H1) (e0 : Same H0 H1) : Post D E σ O W H1 H1 Q r := by
 cases r with
 | ok d c => exact λ v H' s g => h v H' (e.trans s) (g.since e0)
 | ex c => exact λ H' C m s => h H' C m (e.trans s)
theorem GotL.since {D : Dm} {O W : List Addr} {H0 H1 H : Hp} {l : List (DV × Cl)} {vs : List V} (h : GotL D O W H1 H l vs) (e : Same H0 H1) : GotL D O W H0 H l vs := by
 induction h with
 | nil => exact .nil
 | cons g _ ih => exact .cons (g.since e) ih
theorem z0c.later {D : Dm} {E : St -> XK} {σ : St} {H H1 : Hp} {Q : Bool -> Hp -> Prop} {r : Rt} (h : z0c D E σ H Q r) (e : Same H H1) : z0c D E σ H1 Q r := by
 cases r with
 | ok b => exact λ H' s => h H' (e.trans s)
 | ex c => exact λ H' C m s => h H' C m (e.trans s)
theorem PE.weak {X : Cx} {e : Expr} {t t' : TE} (h : PE X e t) (k : ∀ σ H Q, t' σ H Q -> t σ H Q) : PE X e t' := λ pins s σ H Q I q => h pins s σ H Q I (k σ H Q q)
theorem PT.weak {X : Cx} {e : Expr} {t t' : TT} (h : PT X e t) (k : ∀ σ H Q, t' σ H Q -> t σ H Q) : PT X e t' := λ pins s σ H Q I q => h pins s σ H Q I (k σ H Q q)
theorem PW.weak {X : Cx} {e : Expr} {t t' : TT} (h : PW X e t) (k : ∀ σ H Q, t' σ H Q -> t σ H Q) : PW X e t' := λ whole pins s σ H Q I q => h whole pins s σ H Q I (k σ H Q q)
theorem PA.weak {X : Cx} {e : List Expr} {t t' : TA} (h : PA X e t) (k : ∀ σ H Q, t' σ H Q -> t σ H Q) : PA X e t' := λ pos pins s σ H Q I q => h pos pins s σ H Q I (k σ H Q q)
theorem PS.weak {X : Cx} {e : Stmt} {t t' : TS} (h : PS X e t) (k : ∀ D σ H, t' D σ H -> t D σ H) : PS X e t' := λ pins s σ H D I q => h pins s σ H D I (k D σ H q)
theorem PSs.weak {X : Cx} {e : List Stmt} {t t' : TS} (h : PSs X e t) (k : ∀ D σ H, t' D σ H -> t D σ H) : PSs X e t' := λ pins s σ H D I q => h pins s σ H D I (k D σ H q)
theorem q5c {X : Cx} {e : Expr} : PW X e (λ _ _ _ => False) := λ _ _ _ _ _ _ _ h => h.elim
theorem q5j {X : Cx} {e : Expr} : PT X e (λ _ _ _ => False) := λ _ _ _ _ _ _ h => h.elim
theorem q1i {X : Cx} {e : Expr} : PE X e (λ _ _ _ => False) := λ _ _ _ _ _ _ h => h.elim
theorem z3j {X : Cx} {e : List Expr} : PA X e (λ _ _ _ => False) := λ _ _ _ _ _ _ _ h => h.elim
end L2
end
section
namespace L2
open PySem PySem.Spec PyProof.Rows
theorem q1D {n : Nat} (h : n <= mostLen) : n <= sizeLine := Nat.le_trans h (by decide)
section
variable {X : Cx} {E : St -> XK} {δ : List Sv} {a b c e : Expr} {es : List Expr}
theorem z1r {r : V -> Hp -> VK -> Prop} {k : DV -> Cl -> Option Re} {ra : Option Re} {re : Re} (hop : ∀ ta, PE X a ta -> PE X e (tUn r ta)) (ha : ∀ q, ra = some q -> PE X a (dE X.D E δ q)) (h : Re.thn ra k = some re)
  (hr : ∀ O W H0 H x Q dx cx σ, k dx cx = some re -> Hid O W H0 H -> Got X.D O W H0 H dx cx x -> Post X.D E σ O W H0 H Q re -> r x H Q) : PE X e (dE X.D E δ re) := by
 cases hra : ra with
 | none => rw [hra] at h; cases h
 | some q =>
  rw [hra] at h
  have A := ha q hra
  cases q with
  | ex c =>
   cases h
   exact (hop _ A).weak λ σ H Q ⟨O, W, R, p⟩ => ⟨O, W, R, p⟩
  | ok dx cx =>
   have h' : k dx cx = some re := h
   exact (hop _ A).weak λ σ H Q ⟨O, W, R, p⟩ => ⟨O, W, R, λ x H1 s1 g1 => hr O W H H1 x Q dx cx σ h' (R.hid.mono s1) g1 (p.step s1)⟩
theorem q7b {r : R2} {k : DV -> Cl -> DV -> Cl -> Option Re} {ra rb : Option Re} {re : Re} (ha : ∀ q, ra = some q -> PE X a (dE X.D E δ q)) (hb : ∀ q, rb = some q -> PE X b (dE X.D E δ q))
  (h : (Re.thn ra λ x cx => Re.thn rb λ y cy => k x cx y cy) = some re)
  (hr : ∀ O W H0 H x y Q dx cx dy cy σ, k dx cx dy cy = some re -> Hid O W H0 H -> Got X.D O W H0 H dx cx x -> Got X.D O W H0 H dy cy y -> Post X.D E σ O W H0 H Q re -> r x y H Q) :
  ∃ ta tb, PE X a ta /\ PE X b tb /\ ∀ σ H Q, dE X.D E δ re σ H Q -> tOp r ta tb σ H Q := by
 cases hra : ra with
 | none => rw [hra] at h; cases h
 | some q =>
  rw [hra] at h
  have A := ha q hra
  cases q with
  | ex c =>
   cases h
   exact ⟨_, _, A, q1i, λ σ H Q ⟨O, W, R, p⟩ => ⟨O, W, R, p⟩⟩
  | ok dx cx =>
   have h' : (Re.thn rb λ y cy => k dx cx y cy) = some re := h
   cases hrb : rb with
   | none => rw [hrb] at h'; cases h'
   | some q =>
    rw [hrb] at h'
    have B := hb q hrb
    cases q with
    | ex c =>
     cases h'
     exact ⟨_, _, A, B, λ σ H Q ⟨O, W, R, p⟩ => ⟨O, W, R, λ x H1 s1 g1 => ⟨O, W, R.mono s1, λ H' C m s => p H' C m (s1.trans s)⟩⟩⟩
    | ok dy cy =>
     have h2 : k dx cx dy cy = some re := h'
     exact ⟨_, _, A, B, λ σ H Q ⟨O, W, R, p⟩ => ⟨O, W, R, λ x H1 s1 g1 => ⟨O, W, R.mono s1, λ y H2 s2 g2 =>
      hr O W H H2 x y Q dx cx dy cy σ h2 ((R.hid.mono s1).mono s2) (g1.mono s2) (g2.since s1) (p.step (s1.trans s2))⟩⟩⟩
theorem q9T {r : R2} {k : DV -> Cl -> DV -> Cl -> Option Re} {ra rb : Option Re} {re : Re} (hop : ∀ ta tb, PE X a ta -> PE X b tb -> PE X e (tOp r ta tb)) (ha : ∀ q, ra = some q -> PE X a (dE X.D E δ q)) (hb : ∀ q, rb = some q -> PE X b (dE X.D E δ q))
  (h : (Re.thn ra λ x cx => Re.thn rb λ y cy => k x cx y cy) = some re)
  (hr : ∀ O W H0 H x y Q dx cx dy cy σ, k dx cx dy cy = some re -> Hid O W H0 H -> Got X.D O W H0 H dx cx x -> Got X.D O W H0 H dy cy y -> Post X.D E σ O W H0 H Q re -> r x y H Q) : PE X e (dE X.D E δ re) := by
 obtain ⟨ta, tb, A, B, q⟩ := q7b ha hb h hr
 exact (hop _ _ A B).weak q
theorem q2A {r : List V -> Hp -> VK -> Prop} {k : List (DV × Cl) -> Option Re} {ra : Option Rs} {re : Re} (hop : ∀ t, PA X es t -> PE X e (tCB r t)) (ha : ∀ q, ra = some q -> PA X es (dA X.D E δ q)) (h : Rs.thn ra k = some re)
  (hr : ∀ O W H0 H vs Q l σ, k l = some re -> Hid O W H0 H -> GotL X.D O W H0 H l vs -> Post X.D E σ O W H0 H Q re -> r vs H Q) : PE X e (dE X.D E δ re) := by
 cases hra : ra with
 | none => rw [hra] at h; cases h
 | some q =>
  rw [hra] at h
  have A := ha q hra
  cases q with
  | ex c =>
   cases h
   exact (hop _ A).weak λ σ H Q ⟨O, W, R, p⟩ => ⟨O, W, R, p⟩
  | ok l =>
   have h' : k l = some re := h
   exact (hop _ A).weak λ σ H Q ⟨O, W, R, p⟩ => ⟨O, W, R, λ vs H1 s1 g1 => hr O W H H1 vs Q l σ h' (R.hid.mono s1) g1 (p.step s1)⟩
end
section
variable {X : Cx} {E : St -> XK} {δ : List Sv} {pos : Pos}
theorem z3N {i : Nat} {x : Str} {r : Re} (hN : X.N[i]? = some x) (hv : Vis X.env.scope x) (hd : (x == ("__debug__" : Str)) = false) (hcd : (x == ("__classdict__" : Str)) = false)
  (h : (match δ[i]? with | some (.val d) => some (Re.ok d .strong) | some (.own d) => some (.ok d .top) | some (.ot d) => some (.ok d .weak) | _ => none) = some r) : PE X (.Name x pos) (dE X.D E δ r) :=
 (q9L hN hv hd hcd).weak λ σ H Q ⟨O, W, R, p⟩ => by
  split at h
  ·rename_i d q
   cases h
   obtain ⟨v, e1, e2⟩ := R.val i d q
   exact ⟨v, e1, p v H (Same.refl H) e2⟩
  ·rename_i d q
   cases h
   obtain ⟨a, xs, ds, e0, e1, e2, e3, e4⟩ := R.own i d q
   subst e0
   refine ⟨.ref a, e1, p _ H (Same.refl H) ⟨a, xs, rfl, e2, ?_, e4⟩⟩
   rw [q0A (R.hid.dj a e2)]
   exact e3
  ·rename_i d q
   cases h
   obtain ⟨⟨t, ts, p1, xs, ds, es, e0, e1, e2, e3, e4, e5, e6, e7⟩, _⟩ := R.ot i d q
   subst e0
   have up : Same (L2.wo (O ++ W) H) (L2.wo O H) := q0Q q6e
   refine ⟨.ref t, e1, p _ H (Same.refl H) (q0S.mpr ⟨t, _, rfl, up.tseq e2, q0m.mpr ⟨_, _, rfl, q0L.mpr ⟨p1, xs, rfl, ?_, e5.mono up⟩, e6.mono up⟩⟩ : Rep X.D (L2.wo O H) (.tup (.lst ds :: es)) (.ref t))⟩
   rw [q0A (R.hid.dj p1 e3)]
   exact e4
  ·cases h
theorem z2g {i : Int} {j : Nat} : PE X (.Constant (.int i) j pos) (dE X.D E δ (.ok (.int i) .strong)) := z5K.weak λ σ H Q ⟨O, W, R, p⟩ => p _ H (Same.refl H) q0D
theorem z4w {i : Bool} {j : Nat} : PE X (.Constant (.bool i) j pos) (dE X.D E δ (.ok (.bl i) .strong)) := z6J.weak λ σ H Q ⟨O, W, R, p⟩ => p _ H (Same.refl H) q4p
theorem z3w {i : Str} {j : Nat} (h : i.length <= sizeLine) : PE X (.Constant (.str i) j pos) (dE X.D E δ (.ok (.str i) .strong)) := z5M.weak λ σ H Q ⟨O, W, R, p⟩ => p _ H (Same.refl H) (q2c.mpr ⟨rfl, h⟩ : Rep X.D (L2.wo (O ++ W) H) (.str i) (.str i))
theorem z2n {j : Nat} : PE X (.Constant .none j pos) (dE X.D E δ (.ok .non .strong)) := z5X.weak λ σ H Q ⟨O, W, R, p⟩ => p _ H (Same.refl H) z3n
end
section
variable {X : Cx} {E : St -> XK} {δ : List Sv} {a b c e : Expr} {pos : Pos} {ra rb : Option Re} {re : Re}
theorem q9y {O W : List Addr} {H0 H : Hp} {C : Int -> Int -> Prop} {g : Int -> Int -> V} {x y : V} {Q : VK} {i j : Int} {ca cb : Cl} {D : Dm} (hd : Hid O W H0 H) (gx : Got D O W H0 H (.int i) ca x) (gy : Got D O W H0 H (.int j) cb y) (hc : C i j) (q : Q (g i j) H) : rI C g x y H Q :=
 ⟨i, j, gx.int hd, gy.int hd, hc, q⟩
theorem q5D {O W : List Addr} {H0 H : Hp} {g : Int -> Int -> V} {x y : V} {Q : VK} {i j : Int} {ca cb : Cl} {D : Dm} (hd : Hid O W H0 H) (gx : Got D O W H0 H (.int i) ca x) (gy : Got D O W H0 H (.int j) cb y) (q : Q (g i j) H) : rI0 g x y H Q :=
 ⟨i, j, gx.int hd, gy.int hd, q⟩
theorem q9D {ca cb : Cl} (h : ca ≠ .weak) (h' : cb ≠ .weak) : Cl.anew ca cb = .fresh := by
 cases ca <;> cases cb <;> first | rfl | exact absurd rfl h | exact absurd rfl h'
noncomputable def binR (X : Cx) : Operator -> R2
 | .Add => λ x y H Q => rI0 (λ i j => .int (i + j)) x y H Q \/ rCat x y H Q \/ z5D X.K x y H Q
 | .Sub => rI0 λ i j => .int (i - j)
 | .Mult => λ x y H Q => rI CMul (λ i j => .int (i * j)) x y H Q \/ rRep x y H Q
 | .Mod => rI (λ _ j => 0 < j) λ i j => .int (i % j)
 | .FloorDiv => rI CDiv λ i j => .int (i / j)
 | .LShift => rI CPow λ i j => .int (i * 2 ^ j.toNat)
 | .RShift => rI (λ _ j => 0 <= j) λ i j => .int (i / 2 ^ j.toNat)
 | .BitAnd => rI0 λ i j => .int (Builtin.bitAnd i j)
 | .BitOr => rI0 λ i j => .int (Builtin.bitOr i j)
 | .BitXor => rI0 λ i j => .int (Builtin.bitXor i j)
 | _ => λ _ _ _ _ => False
theorem z4a {op : Operator} : OpR X (binaryOp op) (binR X op) := by
 cases op with
 | Add => exact z4N.or (z4s.or z2r)
 | Sub => exact z4f
 | Mult => exact z4q.or z5U
 | Mod => exact z4u
 | FloorDiv => exact z2P
 | LShift => exact z5O
 | RShift => exact z5b
 | BitAnd => exact z5x
 | BitOr => exact z6b
 | BitXor => exact z3T
 | MatMult => exact λ _ _ _ _ _ _ _ _ _ _ _ _ h => h.elim
 | Div => exact λ _ _ _ _ _ _ _ _ _ _ _ _ h => h.elim
 | Pow => exact λ _ _ _ _ _ _ _ _ _ _ _ _ h => h.elim
theorem z4P {O W : List Addr} {H0 H : Hp} {op : Operator} {x y : V} {dx dy : DV} {cx cy : Cl} {Q : VK} {σ : St} (h : binD op dx dy cx cy = some re) (hd : Hid O W H0 H) (gx : Got X.D O W H0 H dx cx x) (gy : Got X.D O W H0 H dy cy y)
  (p : Post X.D E σ O W H0 H Q re) : binR X op x y H Q := by
 unfold binD at h
 split at h
 ·cases h; exact .inl (q5D hd gx gy (p _ H (Same.refl H) q0D))
 ·cases h; exact q5D hd gx gy (p _ H (Same.refl H) q0D)
 ·split at h
  ·rename_i m
   cases h
   refine .inl (q9y hd gx gy ?_ (p _ H (Same.refl H) q0D))
   unfold q3o at m
   simp only [Bool.or_eq_true, Bool.and_eq_true, decide_eq_true_eq] at m
   exact m
  ·cases h
 ·split at h
  ·rename_i m; cases h; exact q9y hd gx gy m (p _ H (Same.refl H) q0D)
  ·cases h
 ·split at h
  ·rename_i m; cases h; exact q9y hd gx gy m (p _ H (Same.refl H) q0D)
  ·cases h
 ·split at h
  ·rename_i m; cases h; exact q9y hd gx gy m (p _ H (Same.refl H) q0D)
  ·cases h
 ·split at h
  ·rename_i m; cases h; exact q9y hd gx gy m (p _ H (Same.refl H) q0D)
  ·cases h
 ·cases h; exact q5D hd gx gy (p _ H (Same.refl H) q0D)
 ·cases h; exact q5D hd gx gy (p _ H (Same.refl H) q0D)
 ·cases h; exact q5D hd gx gy (p _ H (Same.refl H) q0D)
 ·rename_i xs ys
  split at h
  ·rename_i m
   cases h
   by_cases hw : cx ≠ .weak /\ cy ≠ .weak
   ·obtain ⟨l1, v1, e1, k1, r1⟩ := gx.items hd hw.1
    obtain ⟨l2, v2, e2, k2, r2⟩ := gy.items hd hw.2
    refine .inr (.inl ⟨l1, l2, v1, v2, e1, e2, k1, k2, by rw [r1.length, r2.length]; exact q1D m, λ q hq => p _ _ (q0o hq) ?_⟩)
    rw [q9D hw.1 hw.2]
    exact q1F hd hq (r1.append r2)
   ·obtain ⟨l1, v1, e1, k1, r1⟩ := gx.lst hd
    obtain ⟨l2, v2, e2, k2, r2⟩ := gy.lst hd
    refine .inr (.inl ⟨l1, l2, v1, v2, e1, e2, k1, k2, by rw [r1.length, r2.length]; exact q1D m, λ q hq => p _ _ (q0o hq) ?_⟩)
    have : Cl.anew cx cy = .weak := by
     cases cx <;> cases cy <;> first | rfl | exact absurd ⟨(by intro z; cases z), (by intro z; cases z)⟩ hw
    rw [this]
    exact q5k hd hq (r1.append r2)
  ·cases h
 ·rename_i xs ys
  split at h
  ·rename_i m
   cases h
   by_cases hw : cx ≠ .weak /\ cy ≠ .weak
   ·obtain ⟨l1, v1, e1, k1, r1⟩ := gx.itemsT hd hw.1
    obtain ⟨l2, v2, e2, k2, r2⟩ := gy.itemsT hd hw.2
    have cl : (Cl.anew cx cy).notF = .strong := by rw [q9D hw.1 hw.2]; rfl
    rw [cl] at p
    refine .inr (.inr ⟨l1, l2, v1, v2, e1, e2, k1, k2, λ z => m.2 (by have := r1.length; rw [z] at this; exact List.length_eq_zero_iff.mp this.symm), by rw [r1.length, r2.length]; exact q1D m.1, λ z => ?_, λ _ q hq => p _ _ (q0o hq) (q3l hd hq (r1.append r2))⟩)
    refine p _ _ (Same.refl _) ?_
    have z2 : ys = [] := by have := r2.length; rw [z] at this; exact List.length_eq_zero_iff.mp this.symm
    subst z2
    rw [List.append_nil]
    cases cx with
    | weak => exact absurd rfl hw.1
    | top => rw [← e1]; exact gx
    | strong => rw [← e1]; exact gx
    | fresh => obtain ⟨_, _, _, _, q, _⟩ := gx; cases q
    | ft => rw [← e1]; exact gx.ft hd
   ·obtain ⟨l1, v1, e1, k1, r1⟩ := gx.tup hd
    obtain ⟨l2, v2, e2, k2, r2⟩ := gy.tup hd
    have cl : (Cl.anew cx cy).notF = .weak := by
     cases cx <;> cases cy <;> first | rfl | exact absurd ⟨(by intro z; cases z), (by intro z; cases z)⟩ hw
    rw [cl] at p
    refine .inr (.inr ⟨l1, l2, v1, v2, e1, e2, k1, k2, λ z => m.2 (by have := r1.length; rw [z] at this; exact List.length_eq_zero_iff.mp this.symm), by rw [r1.length, r2.length]; exact q1D m.1, λ z => ?_, λ _ q hq => p _ _ (q0o hq) (q5o hd hq (r1.append r2))⟩)
    refine p _ _ (Same.refl _) ?_
    have z2 : ys = [] := by have := r2.length; rw [z] at this; exact List.length_eq_zero_iff.mp this.symm
    subst z2
    rw [List.append_nil, ← e1]
    exact gx.weak hd
  ·cases h
 ·rename_i xs k
  split at h
  ·rename_i m
   cases h
   obtain ⟨l1, v1, e1, k1, r1⟩ := gx.lstC hd
   refine .inr ⟨l1, k, v1, e1, gy.int hd, k1, m.2.1, m.2.2, by rw [r1.length]; exact q1D m.1, λ q hq => p _ _ (q0o hq) (q3S hd hq (r1.rep _))⟩
  ·cases h
 ·cases h
theorem z2O {op : Operator} (ha : ∀ q, ra = some q -> PE X a (dE X.D E δ q)) (hb : ∀ q, rb = some q -> PE X b (dE X.D E δ q)) (h : (Re.thn ra λ x cx => Re.thn rb λ y cy => binD op x y cx cy) = some re) : PE X (.BinOp a op b pos) (dE X.D E δ re) :=
 q9T (λ _ _ => z7a z4a) ha hb h λ O W H0 H x y Q dx cx dy cy σ k hd gx gy p => z4P k hd gx gy p
theorem z3M (ha : ∀ q, ra = some q -> PE X a (dE X.D E δ q)) (h : (Re.thn ra λ x _ => match x with | .int i => some (.ok (.int (-i)) .strong) | _ => none) = some re) : PE X (.UnaryOp .USub a pos) (dE X.D E δ re) :=
 z1r (λ _ => z7k z3V) ha h λ O W H0 H x Q dx cx σ k hd gx p => by
  split at k
  ·cases k; exact ⟨_, gx.int hd, p _ H (Same.refl H) q0D⟩
  ·cases k
theorem z4x {ds : List DV} {i : Int} : atD ds i = L2.atI ds i := rfl
theorem RepL.atI {D : Dm} {H : Hp} {ds : List DV} {xs : List V} {i : Int} {d : DV} (h : RepL D H ds xs) (e : atD ds i = some d) : ∃ v, L2.atI xs i = some v /\ Rep D H d v := by
 rw [z4x] at e
 unfold L2.atI at e ⊢
 rw [h.length]
 cases q : ixN ds.length i with
 | none => rw [q] at e; cases e
 | some j =>
  rw [q] at e
  exact h.get e
theorem z6Y {O W : List Addr} {H0 H : Hp} {x y : V} {dx dy : DV} {cx cy : Cl} {Q : VK} {σ : St} (h : ((ixD dx dy).map λ d => Re.ok d cx.item) = some re) (hd : Hid O W H0 H) (gx : Got X.D O W H0 H dx cx x) (gy : Got X.D O W H0 H dy cy y)
  (p : Post X.D E σ O W H0 H Q re) : rIx X.K x y H Q := by
 obtain ⟨d, h1, h2⟩ := Option.map_eq_some_iff.mp h
 cases h2
 unfold ixD at h1
 split at h1
 ·rename_i ns i
  obtain ⟨a, e1, e2⟩ := q1M.mp (gx.all hd)
  obtain ⟨n, h3, h4⟩ := Option.map_eq_some_iff.mp h1
  cases h4
  have q : L2.atI (ns.map V.int) i = some (.int n) := by
   unfold L2.atI
   rw [List.length_map]
   have h3' : ((ixN ns.length i).bind λ j => ns[j]?) = some n := h3
   cases z : ixN ns.length i with
   | none => rw [z] at h3'; cases h3'
   | some j =>
    rw [z] at h3'
    have h5 : ns[j]? = some n := h3'
    show (ns.map V.int)[j]? = _
    rw [List.getElem?_map, h5]; rfl
  refine .inl ⟨a, _, i, _, e1, gy.int hd, e2.sq, q, p _ H (Same.refl H) ?_⟩
  cases cx <;> exact q0D
 ·obtain ⟨a, xs, e1, e2, e3⟩ := gx.lstC hd
  obtain ⟨v, q1, q2⟩ := e3.atI h1
  exact .inl ⟨a, xs, _, v, e1, gy.int hd, SqL.of e2, q1, p _ H (Same.refl H) (Got.item q2)⟩
 ·obtain ⟨a, xs, e1, e2, e3⟩ := gx.tupC hd
  obtain ⟨v, q1, q2⟩ := e3.atI h1
  exact .inr (.inl ⟨a, xs, _, v, e1, gy.int hd, e2, q1, p _ H (Same.refl H) (Got.item q2)⟩)
 ·rename_i z i
  obtain ⟨e1, e2⟩ := gx.str hd
  cases q : q1g z.cps.size i with
  | none => rw [q] at h1; cases h1
  | some j =>
   rw [q] at h1
   obtain ⟨ch, h3, h4⟩ := Option.map_eq_some_iff.mp (show ((z.cps[j]?).map λ c => DV.str ⟨#[c]⟩) = some d from h1)
   cases h4
   refine .inr (.inr ⟨z, i, ch, e1, gy.int hd, e2, ?_, p _ H (Same.refl H) ?_⟩)
   ·unfold L2.atI
    have : ixN z.cps.toList.length i = some j := by rw [Array.length_toList]; exact q
    rw [this]
    show z.cps.toList[j]? = some ch
    rw [Array.getElem?_toList]; exact h3
   ·have one : Rep X.D (L2.wo (O ++ W) H) (.str ⟨#[ch]⟩) (.str ⟨#[ch]⟩) := q2c.mpr ⟨rfl, by show (1 : Nat) <= sizeLine; decide⟩
    have one' : Rep X.D (L2.wo O H) (.str ⟨#[ch]⟩) (.str ⟨#[ch]⟩) := q2c.mpr ⟨rfl, by show (1 : Nat) <= sizeLine; decide⟩
    cases cx <;> first | exact one | exact one'
 ·rename_i ks vs k
  exact absurd (gx.all hd) q3y
 ·cases h1
theorem z4n (ha : ∀ q, ra = some q -> PE X a (dE X.D E δ q)) (hb : ∀ q, rb = some q -> PE X b (dE X.D E δ q)) (hs : q4i b = false) (h : (Re.thn ra λ x cx => Re.thn rb λ y _ => (ixD x y).map λ d => .ok d cx.item) = some re) : PE X (.Subscript a b pos) (dE X.D E δ re) :=
 q9T (λ _ _ h1 h2 => z3U z5a h1 h2 (by cases b <;> first | (intro _ _; rfl) | cases hs)) ha hb h λ O W H0 H x y Q dx cx dy cy σ k hd gx gy p => z6Y k hd gx gy p
theorem q5i (n d : Nat) (o : Option Int) : slIx n d o = HT.sIx n d o := by cases o <;> rfl
theorem RepL.cut {D : Dm} {H : Hp} {ds : List DV} {xs : List V} (h : RepL D H ds xs) (lo hi : Option Int) : RepL D H (cutD ds lo hi) (cutV xs lo hi) := by
 unfold cutD cutV
 rw [q5i, q5i, ← h.length]
 exact (h.drop _).take _
theorem z3G {O W : List Addr} {H0 H : Hp} {x : V} {dx : DV} {cx : Cl} {Q : VK} {σ : St} {lo hi : Option Int} (h : ((slD dx lo hi).map λ d => Re.ok d (slCl dx cx)) = some re) (hd : Hid O W H0 H) (gx : Got X.D O W H0 H dx cx x)
  (p : Post X.D E σ O W H0 H Q re) : rSlL X.K x lo hi H Q \/ rSlT X.K x lo hi H Q := by
 obtain ⟨d, h1, h2⟩ := Option.map_eq_some_iff.mp h
 cases h2
 unfold slD at h1
 split at h1
 ·rename_i ns
  cases h1
  obtain ⟨a, e1, e2⟩ := q1M.mp (gx.all hd)
  exact .inl ⟨a, _, e1, e2.sq, λ q hq => p _ _ (q0o hq) (q1F hd hq ((q1Q ns).cut lo hi))⟩
 ·cases h1
  obtain ⟨a, xs, e1, e2, e3⟩ := gx.lstC hd
  exact .inl ⟨a, xs, e1, SqL.of e2, λ q hq => p _ _ (q0o hq) (q3S hd hq (e3.cut lo hi))⟩
 ·rename_i ds
  split at h1
  ·cases h1
  ·rename_i m
   cases h1
   obtain ⟨a, xs, e1, e2, e3⟩ := gx.tupC hd
   refine .inr ⟨a, xs, e1, e2, ?_, λ q hq => p _ _ (q0o hq) (q7f hd hq (e3.cut lo hi))⟩
   rw [q5i, q5i, ← e3.length] at m
   exact m
 ·cases h1
theorem q2P : SlR X (λ x lo hi H Q => rSlL X.K x lo hi H Q \/ rSlT X.K x lo hi H Q) := z2C.or z4d
theorem q5M {i : Int} {cl : Cl} (h : PE X b (dE X.D E δ (.ok (.int i) cl))) : PO X (some b) (λ σ H Q => ∃ O W, RSt X.D H σ δ O W /\ ∀ H', Same H H' -> Q (some i) H') := λ pins s σ H Q I ⟨O, W, R, p⟩ =>
 z0a h pins s σ H Q I ⟨O, W, R, λ v H' s1 g => ⟨i, g.int (R.hid.mono s1), p H' s1⟩⟩
theorem z0r {c : Str} (h : PE X b (dE X.D E δ (.ex c))) : PO X (some b) (λ σ H Q => ∃ O W, RSt X.D H σ δ O W /\ Post X.D E σ O W H H (λ _ _ => False) (.ex c)) := λ pins s σ H Q I ⟨O, W, R, p⟩ =>
 z0a h pins s σ H Q I ⟨O, W, R, p⟩
theorem q3e {o : Option Expr} : PO X o (λ _ _ _ => False) := λ _ _ _ _ _ _ h => h.elim
theorem z2y {p2 : Pos} (ha : ∀ q, ra = some q -> PE X a (dE X.D E δ q)) (hb : ∀ q, rb = some q -> PE X b (dE X.D E δ q)) (h : (Re.thn ra λ x cx => Re.thn rb λ l _ => match l with
  | .int l => (slD x (some l) none).map λ d => .ok d (slCl x cx) | _ => none) = some re) : PE X (.Subscript a (.Slice (some b) none none p2) pos) (dE X.D E δ re) := by
 cases hra : ra with
 | none => rw [hra] at h; cases h
 | some q =>
  rw [hra] at h
  have A := ha q hra
  cases q with
  | ex c => cases h; exact (q1u q2P A q3e q3r).weak λ σ H Q ⟨O, W, R, p⟩ => ⟨O, W, R, p⟩
  | ok dx cx =>
   cases hrb : rb with
   | none => rw [hrb] at h; cases h
   | some q =>
    rw [hrb] at h
    have B := hb q hrb
    cases q with
    | ex c => cases h; exact (q1u q2P A (z0r B) q3r).weak λ σ H Q ⟨O, W, R, p⟩ => ⟨O, W, R, λ x H1 s1 g1 => ⟨O, W, R.mono s1, λ H' C m s => p H' C m (s1.trans s)⟩⟩
    | ok dy cy =>
     have h' : (match (generalizing := false) dy with | .int l => (slD dx (some l) none).map λ d => Re.ok d (slCl dx cx) | _ => none) = some re := h
     split at h'
     ·rename_i l
      exact (q1u q2P A (q5M B) q3r).weak λ σ H Q ⟨O, W, R, p⟩ => ⟨O, W, R, λ x H1 s1 g1 => ⟨O, W, R.mono s1, λ H2 s2 => z3G h' ((R.hid.mono s1).mono s2) (g1.mono s2) (p.step (s1.trans s2))⟩⟩
     ·cases h'
theorem z2V {p2 : Pos} (ha : ∀ q, ra = some q -> PE X a (dE X.D E δ q)) (hb : ∀ q, rb = some q -> PE X b (dE X.D E δ q)) (h : (Re.thn ra λ x cx => Re.thn rb λ l _ => match l with
  | .int l => (slD x none (some l)).map λ d => .ok d (slCl x cx) | _ => none) = some re) : PE X (.Subscript a (.Slice none (some b) none p2) pos) (dE X.D E δ re) := by
 cases hra : ra with
 | none => rw [hra] at h; cases h
 | some q =>
  rw [hra] at h
  have A := ha q hra
  cases q with
  | ex c => cases h; exact (q1u q2P A q3r q3e).weak λ σ H Q ⟨O, W, R, p⟩ => ⟨O, W, R, p⟩
  | ok dx cx =>
   cases hrb : rb with
   | none => rw [hrb] at h; cases h
   | some q =>
    rw [hrb] at h
    have B := hb q hrb
    cases q with
    | ex c => cases h; exact (q1u q2P A q3r (z0r B)).weak λ σ H Q ⟨O, W, R, p⟩ => ⟨O, W, R, λ x H1 s1 g1 => ⟨O, W, R.mono s1, λ H' C m s => p H' C m (s1.trans s)⟩⟩
    | ok dy cy =>
     have h' : (match (generalizing := false) dy with | .int l => (slD dx none (some l)).map λ d => Re.ok d (slCl dx cx) | _ => none) = some re := h
     split at h'
     ·rename_i l
      exact (q1u q2P A q3r (q5M B)).weak λ σ H Q ⟨O, W, R, p⟩ => ⟨O, W, R, λ x H1 s1 g1 => ⟨O, W, R.mono s1, λ H2 s2 => z3G h' ((R.hid.mono s1).mono s2) (g1.mono s2) (p.step (s1.trans s2))⟩⟩
     ·cases h'
theorem z4K {p2 : Pos} {rc : Option Re} (ha : ∀ q, ra = some q -> PE X a (dE X.D E δ q)) (hb : ∀ q, rb = some q -> PE X b (dE X.D E δ q)) (hc : ∀ q, rc = some q -> PE X c (dE X.D E δ q)) (h : (Re.thn ra λ x cx => Re.thn rb λ l _ => match l with
  | .int l => Re.thn rc λ u _ => (match u with
   | .int u => (slD x (some l) (some u)).map λ d => .ok d (slCl x cx) | _ => none) | _ => none) = some re) : PE X (.Subscript a (.Slice (some b) (some c) none p2) pos) (dE X.D E δ re) := by
 cases hra : ra with
 | none => rw [hra] at h; cases h
 | some q =>
  rw [hra] at h
  have A := ha q hra
  cases q with
  | ex c => cases h; exact (q1u q2P A q3e q3e).weak λ σ H Q ⟨O, W, R, p⟩ => ⟨O, W, R, p⟩
  | ok dx cx =>
   cases hrb : rb with
   | none => rw [hrb] at h; cases h
   | some q =>
    rw [hrb] at h
    have B := hb q hrb
    cases q with
    | ex c => cases h; exact (q1u q2P A (z0r B) q3e).weak λ σ H Q ⟨O, W, R, p⟩ => ⟨O, W, R, λ x H1 s1 g1 => ⟨O, W, R.mono s1, λ H' C m s => p H' C m (s1.trans s)⟩⟩
    | ok dy cy =>
     have h' : (match (generalizing := false) dy with | .int l => Re.thn rc λ u _ => (match u with | .int u => (slD dx (some l) (some u)).map λ d => Re.ok d (slCl dx cx) | _ => none) | _ => none) = some re := h
     split at h'
     ·rename_i l
      cases hrc : rc with
      | none => rw [hrc] at h'; cases h'
      | some q =>
       rw [hrc] at h'
       have C := hc q hrc
       cases q with
       | ex c' =>
        cases h'
        exact (q1u q2P A (q5M B) (z0r C)).weak λ σ H Q ⟨O, W, R, p⟩ => ⟨O, W, R, λ x H1 s1 g1 => ⟨O, W, R.mono s1, λ H2 s2 => ⟨O, W, (R.mono s1).mono s2, λ H' C m s => p H' C m (s1.trans (s2.trans s))⟩⟩⟩
       | ok dz cz =>
        have h2 : (match (generalizing := false) dz with | .int u => (slD dx (some l) (some u)).map λ d => Re.ok d (slCl dx cx) | _ => none) = some re := h'
        split at h2
        ·rename_i u
         exact (q1u q2P A (q5M B) (q5M C)).weak λ σ H Q ⟨O, W, R, p⟩ => ⟨O, W, R, λ x H1 s1 g1 => ⟨O, W, R.mono s1, λ H2 s2 => ⟨O, W, (R.mono s1).mono s2, λ H3 s3 => z3G h2 (((R.hid.mono s1).mono s2).mono s3) ((g1.mono s2).mono s3) (p.step (s1.trans (s2.trans s3)))⟩⟩⟩
        ·cases h2
     ·cases h'
end
end L2
end
section
namespace L2
open PySem PySem.Spec PyProof.Rows
mutual
noncomputable def toP : DV -> PyData
 | .non => .none | .bl b => .bool b | .int i => .int i | .str x => .str x
 | .tup ds => .tuple (toPs ds) | .lst ds => .list (toPs ds)
 | _ => .none
noncomputable def toPs : List DV -> List PyData
 | [] => []
 | d :: r => toP d :: toPs r
end
mutual
theorem q5d : ∀ (n m : Nat) (d e : DV), d.plain n = true -> e.plain m = true -> PyData.eqv (toP d) (toP e) = deq d e
 | n, m, .non, e, _, h => by cases e <;> first | (cases m <;> simp [DV.plain] at h; done) | (simp only [toP, PyData.eqv, deq])
 | n, m, .bl _, e, _, h => by cases e <;> first | (cases m <;> simp [DV.plain] at h; done) | (simp only [toP, PyData.eqv, deq])
 | n, m, .int _, e, _, h => by cases e <;> first | (cases m <;> simp [DV.plain] at h; done) | (simp only [toP, PyData.eqv, deq])
 | n, m, .str x, e, _, h => by
  cases e with
  | str y => simp only [toP, PyData.eqv, deq]; rfl
  | non => simp only [toP, PyData.eqv, deq]
  | bl _ => simp only [toP, PyData.eqv, deq]
  | int _ => simp only [toP, PyData.eqv, deq]
  | tup _ => simp only [toP, PyData.eqv, deq]
  | lst _ => simp only [toP, PyData.eqv, deq]
  | dct _ _ => cases m <;> simp [DV.plain] at h
  | exc _ => cases m <;> simp [DV.plain] at h
  | fn _ => cases m <;> simp [DV.plain] at h
  | scr _ => cases m <;> simp [DV.plain] at h
 | 0, _, .tup _, _, h, _ => by simp [DV.plain] at h
 | 0, _, .lst _, _, h, _ => by simp [DV.plain] at h
 | n + 1, m, .tup ds, e, h, h' => by
  cases e with
  | tup es =>
   cases m with
   | zero => simp [DV.plain] at h'
   | succ m =>
    simp only [toP, PyData.eqv, deq]
    exact q5r n m ds es (by simpa [DV.plain] using h) (by simpa [DV.plain] using h')
  | non => simp only [toP, PyData.eqv, deq]
  | bl _ => simp only [toP, PyData.eqv, deq]
  | int _ => simp only [toP, PyData.eqv, deq]
  | str _ => simp only [toP, PyData.eqv, deq]
  | lst _ => simp only [toP, PyData.eqv, deq]
  | dct _ _ => cases m <;> simp [DV.plain] at h'
  | exc _ => cases m <;> simp [DV.plain] at h'
  | fn _ => cases m <;> simp [DV.plain] at h'
  | scr _ => cases m <;> simp [DV.plain] at h'
 | n + 1, m, .lst ds, e, h, h' => by
  cases e with
  | lst es =>
   cases m with
   | zero => simp [DV.plain] at h'
   | succ m =>
    simp only [toP, PyData.eqv, deq]
    exact q5r n m ds es (by simpa [DV.plain] using h) (by simpa [DV.plain] using h')
  | non => simp only [toP, PyData.eqv, deq]
  | bl _ => simp only [toP, PyData.eqv, deq]
  | int _ => simp only [toP, PyData.eqv, deq]
  | str _ => simp only [toP, PyData.eqv, deq]
  | tup _ => simp only [toP, PyData.eqv, deq]
  | dct _ _ => cases m <;> simp [DV.plain] at h'
  | exc _ => cases m <;> simp [DV.plain] at h'
  | fn _ => cases m <;> simp [DV.plain] at h'
  | scr _ => cases m <;> simp [DV.plain] at h'
 | n, _, .dct _ _, _, h, _ => by cases n <;> simp [DV.plain] at h
 | n, _, .exc _, _, h, _ => by cases n <;> simp [DV.plain] at h
 | n, _, .fn _, _, h, _ => by cases n <;> simp [DV.plain] at h
 | n, _, .scr _, _, h, _ => by cases n <;> simp [DV.plain] at h
theorem q5r : ∀ (n m : Nat) (ds es : List DV), DV.plains n ds = true -> DV.plains m es = true -> PyData.eqvAll (toPs ds) (toPs es) = deqs ds es
 | _, _, [], [], _, _ => by simp only [toPs, PyData.eqvAll, deqs]
 | _, _, [], _ :: _, _, _ => by simp only [toPs, PyData.eqvAll, deqs]
 | _, _, _ :: _, [], _, _ => by simp only [toPs, PyData.eqvAll, deqs]
 | n, m, d :: ds, e :: es, h, h' => by
  simp only [DV.plains, Bool.and_eq_true] at h h'
  simp only [toPs, PyData.eqvAll, deqs, q5d n m d e h.1 h'.1, q5r n m ds es h.2 h'.2]
end
mutual
theorem q3t : ∀ (n : Nat) (d : DV), d.plain n = true -> (toP d).canLay0 = true /\ (toP d).depth <= n
 | n, .non, _ => by simp [toP, PyData.canLay0, PyData.depth]
 | n, .bl _, _ => by simp [toP, PyData.canLay0, PyData.depth]
 | n, .int _, _ => by simp [toP, PyData.canLay0, PyData.depth]
 | n, .str x, h => by
  have h' : (x.cps.all (· < 0x110000)) = true := by cases n <;> simpa [DV.plain] using h
  simp only [toP, PyData.canLay0, PyData.depth]
  exact ⟨h', Nat.zero_le _⟩
 | 0, .tup _, h => by simp [DV.plain] at h
 | 0, .lst _, h => by simp [DV.plain] at h
 | n + 1, .tup ds, h => by
  have q := q2d n ds (by simpa [DV.plain] using h)
  simp only [toP, PyData.canLay0, PyData.depth, q.1, true_and]
  have := q.2
  omega
 | n + 1, .lst ds, h => by
  have q := q2d n ds (by simpa [DV.plain] using h)
  simp only [toP, PyData.canLay0, PyData.depth, q.1, true_and]
  have := q.2
  omega
 | n, .dct _ _, h => by cases n <;> simp [DV.plain] at h
 | n, .exc _, h => by cases n <;> simp [DV.plain] at h
 | n, .fn _, h => by cases n <;> simp [DV.plain] at h
 | n, .scr _, h => by cases n <;> simp [DV.plain] at h
theorem q2d : ∀ (n : Nat) (ds : List DV), DV.plains n ds = true -> PyData.canLayAll0 (toPs ds) = true /\ PyData.depthAll (toPs ds) <= n
 | _, [], _ => by simp [toPs, PyData.canLayAll0, PyData.depthAll]
 | n, d :: ds, h => by
  simp only [DV.plains, Bool.and_eq_true] at h
  have q := q3t n d h.1
  have q' := q2d n ds h.2
  simp only [toPs, PyData.canLayAll0, PyData.depthAll, q.1, q'.1, Bool.and_self, true_and]
  have a := q.2
  have b := q'.2
  omega
end
section
variable {X : Cx} {pins : List (Addr × Obj)} {σ : St} {H : Hp} {s : Shared}
mutual
theorem q1c (I : Inv X pins σ H s) : ∀ (n : Nat) {d : DV} {v : V} {u : Value}, d.plain n = true -> Rep X.D H d v -> RelV v u -> ∃ as, Reads s.heap u (toP d) as
 | _, .non, _, _, _, h, r => by rw [q2x.mp h] at r; cases r; exact ⟨_, Reads.none⟩
 | _, .bl b, _, _, _, h, r => by rw [q4f.mp h] at r; cases r; exact ⟨_, Reads.bool b⟩
 | _, .int i, _, _, _, h, r => by rw [q0B.mp h] at r; obtain ⟨t, rfl⟩ := r; exact ⟨_, Reads.int i t⟩
 | _, .str x, _, _, _, h, r => by rw [(q2c.mp h).1] at r; obtain ⟨t, rfl⟩ := r; exact ⟨_, Reads.str x t⟩
 | 0, .tup _, _, _, p, _, _ => by simp [DV.plain] at p
 | 0, .lst _, _, _, p, _, _ => by simp [DV.plain] at p
 | n + 1, .tup ds, _, _, p, h, r => by
  obtain ⟨a, xs, e1, e2, e3⟩ := q0S.mp h
  rw [e1] at r; cases r
  obtain ⟨its, rv, ⟨o, h1, h2, k, h3⟩, _⟩ := I.tuple e2
  obtain ⟨as, q⟩ := q4k I n (by simpa [DV.plain] using p) e3 rv
  rw [toP]
  exact ⟨as, Reads.tuple h1 h2 h3 (by simpa using q)⟩
 | n + 1, .lst ds, _, _, p, h, r => by
  obtain ⟨a, xs, e1, e2, e3⟩ := q0L.mp h
  rw [e1] at r; cases r
  obtain ⟨_, its, k, rv, _, h1⟩ := I.lstM e2
  obtain ⟨as, q⟩ := q4k I n (by simpa [DV.plain] using p) e3 rv
  rw [toP]
  exact ⟨_, Reads.list h1 rfl rfl (by simpa using q)⟩
 | n, .dct _ _, _, _, h, _, _ => by cases n <;> simp [DV.plain] at h
 | n, .exc _, _, _, h, _, _ => by cases n <;> simp [DV.plain] at h
 | n, .fn _, _, _, h, _, _ => by cases n <;> simp [DV.plain] at h
 | n, .scr _, _, _, h, _, _ => by cases n <;> simp [DV.plain] at h
theorem q4k (I : Inv X pins σ H s) : ∀ (n : Nat) {ds : List DV} {vs : List V} {us : List Value}, DV.plains n ds = true -> RepL X.D H ds vs -> Vals vs us -> ∃ as, ReadsAll s.heap us (toPs ds) as
 | _, [], _, _, _, h, r => by rw [q0C.mp h] at r; cases r; exact ⟨_, ReadsAll.nil⟩
 | n, d :: ds, _, _, p, h, r => by
  simp only [DV.plains, Bool.and_eq_true] at p
  obtain ⟨v, vs, e1, e2, e3⟩ := q0m.mp h
  subst e1
  cases r with
  | cons r1 r2 =>
   obtain ⟨as, q⟩ := q1c I n p.1 e2 r1
   obtain ⟨bs, q'⟩ := q4k I n p.2 e3 r2
   rw [toPs]
   exact ⟨_, ReadsAll.cons q q'⟩
end
theorem q2X {d : DV} (h : d.plain 60 = true) : SeqAt.shaped (toP d) = true := by
 have q := q3t 60 d h
 unfold SeqAt.shaped
 rw [q.1, Bool.true_and]
 exact decide_eq_true (Nat.le_trans q.2 (by decide))
theorem q4b {d : DV} (h : d.plain 60 = true) : ∀ (ds : List DV), DV.plains 60 ds = true -> ((toPs ds).any λ y => PyData.eqv y (toP d)) = ds.any λ x => deq x d
 | [], _ => rfl
 | e :: ds, p => by
  simp only [DV.plains, Bool.and_eq_true] at p
  rw [toPs, List.any_cons, List.any_cons, q5d 60 60 e d p.1 h, q4b h ds p.2]
end
section
variable {X : Cx} {E : St -> XK} {δ : List Sv} {a b c e : Expr} {pos : Pos} {ra rb rc : Option Re} {re : Re}
noncomputable def cmpR (X : Cx) (op : CmpOp) : R2 := λ x y H Q => ∃ dx dy k, cmpD op dx dy = some k /\ Rep X.D H dx x /\ Rep X.D H dy y /\ Q (.bl k) H
theorem z1O {D : Dm} {H : Hp} {d : DV} {v : V} (r : Rep D H d v) : decide (v = .non) = isN d := by
 cases d with
 | non => rw [q2x.mp r]; rfl
 | bl _ => rw [q4f.mp r]; rfl
 | int _ => rw [q0B.mp r]; rfl
 | str _ => rw [(q2c.mp r).1]; rfl
 | tup _ => obtain ⟨a, xs, e, _⟩ := q0S.mp r; rw [e]; rfl
 | lst _ => obtain ⟨a, xs, e, _⟩ := q0L.mp r; rw [e]; rfl
 | exc _ => obtain ⟨a, C, e, _⟩ := z2m.mp r; rw [e]; rfl
 | fn _ => obtain ⟨a, e, _⟩ := z4Z.mp r; rw [e]; rfl
 | scr _ => obtain ⟨a, e, _⟩ := q1M.mp r; rw [e]; rfl
 | dct _ _ => exact absurd r q3y
theorem q4Q {op : CmpOp} (hu : X.A.units + 64 < cLine) : OpR X (compareOp op) (cmpR X op) := by
 intro pins s σ H x y v u Q I rx ry h
 obtain ⟨dx, dy, k, hk, r1, r2, q⟩ := h
 have fin : ∀ {k' : Bool}, k' = k -> EP X pins σ Q (.bool k') s := λ {k'} e => ⟨.bl k', H, I, rfl, by rw [e]; exact q⟩
 unfold cmpD at hk
 split at hk
 ·cases hk; exact z6T pins s σ H x y v u Q I rx ry ⟨_, _, q0B.mp r1, q0B.mp r2, q⟩
 ·cases hk; exact z6M pins s σ H x y v u Q I rx ry ⟨_, _, q0B.mp r1, q0B.mp r2, q⟩
 ·cases hk; exact z7f pins s σ H x y v u Q I rx ry ⟨_, _, q0B.mp r1, q0B.mp r2, q⟩
 ·cases hk; exact z6g pins s σ H x y v u Q I rx ry ⟨_, _, q0B.mp r1, q0B.mp r2, q⟩
 ·split at hk
  ·rename_i p
   rw [Bool.and_eq_true] at p
   cases hk
   obtain ⟨as, q1⟩ := q1c I 60 p.1 r1 rx
   obtain ⟨bs, q2⟩ := q1c I 60 p.2 r2 ry
   exact eq_dataH q1 q2 (q2X p.1) (q2X p.2) hu (fin (q5d 60 60 _ _ p.1 p.2))
  ·cases hk
 ·split at hk
  ·rename_i p
   rw [Bool.and_eq_true] at p
   cases hk
   obtain ⟨as, q1⟩ := q1c I 60 p.1 r1 rx
   obtain ⟨bs, q2⟩ := q1c I 60 p.2 r2 ry
   exact ne_dataH q1 q2 (q2X p.1) (q2X p.2) hu (fin (by rw [q5d 60 60 _ _ p.1 p.2]))
  ·cases hk
 ·cases hk; exact z4C pins s σ H x y v u Q I rx ry ⟨q2x.mp r2, by rw [z1O r1]; exact q⟩
 ·cases hk; exact z3c pins s σ H x y v u Q I rx ry ⟨q2x.mp r2, by rw [z1O r1]; exact q⟩
 ·rename_i ds
  split at hk
  ·rename_i p
   rw [Bool.and_eq_true] at p
   cases hk
   obtain ⟨as, q1⟩ := q1c I 60 p.1 r1 rx
   obtain ⟨bs, q2⟩ := q1c I 61 (d := .lst ds) (by simpa [DV.plain] using p.2) r2 ry
   rw [toP] at q2
   have l1 := q3t 60 _ p.1
   have l2 := q2d 60 ds p.2
   have l3 := l1.2
   exact SeqAt.in_list_reads q2 q1 l2.1 l1.1 (by omega) (fin (q4b p.1 ds p.2))
  ·cases hk
 ·rename_i ds
  split at hk
  ·rename_i p
   rw [Bool.and_eq_true] at p
   cases hk
   obtain ⟨as, q1⟩ := q1c I 60 p.1 r1 rx
   obtain ⟨bs, q2⟩ := q1c I 61 (d := .lst ds) (by simpa [DV.plain] using p.2) r2 ry
   rw [toP] at q2
   have l1 := q3t 60 _ p.1
   have l2 := q2d 60 ds p.2
   have l3 := l1.2
   exact SeqAt.notIn_list_reads q2 q1 l2.1 l1.1 (by omega) (fin (by rw [q4b p.1 ds p.2]))
  ·cases hk
 ·rename_i ds
  split at hk
  ·rename_i p
   rw [Bool.and_eq_true] at p
   cases hk
   obtain ⟨as, q1⟩ := q1c I 60 p.1 r1 rx
   obtain ⟨bs, q2⟩ := q1c I 61 (d := .tup ds) (by simpa [DV.plain] using p.2) r2 ry
   rw [toP] at q2
   have l1 := q3t 60 _ p.1
   have l2 := q2d 60 ds p.2
   have l3 := l1.2
   exact SeqAt.in_tuple_reads q2 q1 l2.1 l1.1 (by omega) (fin (q4b p.1 ds p.2))
  ·cases hk
 ·rename_i ds
  split at hk
  ·rename_i p
   rw [Bool.and_eq_true] at p
   cases hk
   obtain ⟨as, q1⟩ := q1c I 60 p.1 r1 rx
   obtain ⟨bs, q2⟩ := q1c I 61 (d := .tup ds) (by simpa [DV.plain] using p.2) r2 ry
   rw [toP] at q2
   have l1 := q3t 60 _ p.1
   have l2 := q2d 60 ds p.2
   have l3 := l1.2
   exact SeqAt.notIn_tuple_reads q2 q1 l2.1 l1.1 (by omega) (fin (by rw [q4b p.1 ds p.2]))
  ·cases hk
 ·exact absurd r2 q3y
 ·exact absurd r2 q3y
 ·cases hk
theorem q4o {op : CmpOp} {b : Expr} (h : q2H b = false) : behindInMarks op b = false := by
 cases b <;> first | rfl | cases h
theorem z2x {op : CmpOp} (hu : X.A.units + 64 < cLine) (ha : ∀ q, ra = some q -> PE X a (dE X.D E δ q)) (hb : ∀ q, rb = some q -> PE X b (dE X.D E δ q)) (hs : q2H b = false)
  (h : (Re.thn ra λ x _ => Re.thn rb λ y _ => (cmpD op x y).map λ k => .ok (.bl k) .strong) = some re) : PE X (.Compare a [op] [b] pos) (dE X.D E δ re) :=
 q9T (λ _ _ h1 h2 => z3I (q4Q hu) h1 h2 (q4o hs)) ha hb h λ O W H0 H x y Q dx cx dy cy σ k hd gx gy p => by
  obtain ⟨k', e1, e2⟩ := Option.map_eq_some_iff.mp k
  cases e2
  exact ⟨dx, dy, k', e1, gx.all hd, gy.all hd, p _ H (Same.refl H) q4p⟩
theorem q9j {op : CmpOp} (ha : ∀ q, ra = some q -> PE X a (dE X.D E δ q)) (hb : ∀ q, rb = some q -> PE X b (dE X.D E δ q))
  (h : (Re.thn ra λ x _ => Re.thn rb λ y _ => (cmpD op x y).map λ k => .ok (.bl k) .strong) = some re) : ∃ ta tb, PE X a ta /\ PE X b tb /\ ∀ σ H Q, dE X.D E δ re σ H Q -> tOp (cmpR X op) ta tb σ H Q :=
 q7b ha hb h λ O W H0 H x y Q dx cx dy cy σ k hd gx gy p => by
  obtain ⟨k', e1, e2⟩ := Option.map_eq_some_iff.mp k
  cases e2
  exact ⟨dx, dy, k', e1, gx.all hd, gy.all hd, p _ H (Same.refl H) q4p⟩
theorem z1y {r : Rt} {σ : St} {H : Hp} {Q : Bool -> Hp -> Prop} (hb : ∀ d c, re = .ok d c -> ∃ k, d = .bl k) (h : tstD (some re) = some r) (q : dT X.D E δ r σ H Q) : dE X.D E δ re σ H (λ x H' => ∃ k, x = .bl k /\ Q k H') := by
 obtain ⟨O, W, R, p⟩ := q
 cases re with
 | ex c => cases h; exact ⟨O, W, R, p⟩
 | ok d c =>
  obtain ⟨k, rfl⟩ := hb d c rfl
  cases h
  exact ⟨O, W, R, λ v H' s g => ⟨k, g.bl (R.hid.mono s), p H' s⟩⟩
theorem z5j {op : CmpOp} (h : (Re.thn ra λ x _ => Re.thn rb λ y _ => (cmpD op x y).map λ k => .ok (.bl k) .strong) = some re) : ∀ d c, re = .ok d c -> ∃ k, d = .bl k := by
 intro d c e
 subst e
 cases ra with
 | none => cases h
 | some q =>
  cases q with
  | ex c => cases h
  | ok d c =>
   cases rb with
   | none => cases h
   | some q =>
    cases q with
    | ex c => cases h
    | ok d' c' =>
     obtain ⟨k, _, e⟩ := Option.map_eq_some_iff.mp (show ((cmpD op d d').map λ k => Re.ok (.bl k) .strong) = _ from h)
     cases e
     exact ⟨k, rfl⟩
theorem z0H {op : CmpOp} {r : Rt} (hu : X.A.units + 64 < cLine) (ha : ∀ q, ra = some q -> PE X a (dE X.D E δ q)) (hb : ∀ q, rb = some q -> PE X b (dE X.D E δ q)) (hs : q2H b = false)
  (h : tstD (Re.thn ra λ x _ => Re.thn rb λ y _ => (cmpD op x y).map λ k => .ok (.bl k) .strong) = some r) : PT X (.Compare a [op] [b] pos) (dT X.D E δ r) := by
 cases q : (Re.thn ra λ x _ => Re.thn rb λ y _ => (cmpD op x y).map λ k => Re.ok (.bl k) .strong) with
 | none => rw [q] at h; cases h
 | some re =>
  rw [q] at h
  obtain ⟨ta, tb, A, B, w⟩ := q9j ha hb q
  exact (z3B (q4Q hu) A B (q4o hs)).weak λ σ H Q z => w σ H _ (z1y (z5j q) h z)
theorem q3E {op op' : CmpOp} {b c : Expr} (h : q2H c = false) : lastMarks [op, op'] [b, c] = false := by
 show behindInMarks op' c = false
 exact q4o h
theorem q4h {op op' : CmpOp} (ha : ∀ q, ra = some q -> PE X a (dE X.D E δ q)) (hb : ∀ q, rb = some q -> PE X b (dE X.D E δ q)) (hc : ∀ q, rc = some q -> PE X c (dE X.D E δ q))
  (h : (Re.thn ra λ x _ => Re.thn rb λ y _ => match cmpD op x y with
   | none => none
   | some false => some (.ok (.bl false) .strong)
   | some true => Re.thn rc λ z _ => (cmpD op' y z).map λ k => .ok (.bl k) .strong) = some re) : ∃ ta tb tc, PE X a ta /\ PE X b tb /\ PE X c tc /\ (∀ σ H Q, dE X.D E δ re σ H Q -> q8Z (cmpR X op) (cmpR X op') ta tb tc σ H Q) /\ ∀ d cl, re = .ok d cl -> ∃ k, d = .bl k := by
 cases hra : ra with
 | none => rw [hra] at h; cases h
 | some q =>
  rw [hra] at h
  have A := ha q hra
  cases q with
  | ex c => cases h; exact ⟨_, _, _, A, q1i, q1i, λ σ H Q ⟨O, W, R, p⟩ => ⟨O, W, R, p⟩, λ d cl z => nomatch z⟩
  | ok dx cx =>
   cases hrb : rb with
   | none => rw [hrb] at h; cases h
   | some q =>
    rw [hrb] at h
    have B := hb q hrb
    cases q with
    | ex c => cases h; exact ⟨_, _, _, A, B, q1i, λ σ H Q ⟨O, W, R, p⟩ => ⟨O, W, R, λ x H1 s1 g1 => ⟨O, W, R.mono s1, λ H' C m s => p H' C m (s1.trans s)⟩⟩, λ d cl z => nomatch z⟩
    | ok dy cy =>
     have h' : (match (generalizing := false) cmpD op dx dy with
      | none => none
      | some false => some (Re.ok (.bl false) .strong)
      | some true => Re.thn rc λ z _ => (cmpD op' dy z).map λ k => .ok (.bl k) .strong) = some re := h
     split at h'
     ·cases h'
     ·rename_i e1
      cases h'
      exact ⟨_, _, _, A, B, q1i, λ σ H Q ⟨O, W, R, p⟩ => ⟨O, W, R, λ x H1 s1 g1 => ⟨O, W, R.mono s1, λ y H2 s2 g2 =>
       ⟨dx, dy, false, e1, (g1.mono s2).all ((R.hid.mono s1).mono s2), g2.all ((R.mono s1).hid.mono s2), false, rfl, by rw [if_neg Bool.false_ne_true]; exact p _ _ (s1.trans s2) q4p⟩⟩⟩, λ d cl z => by cases z; exact ⟨_, rfl⟩⟩
     ·rename_i e1
      cases hrc : rc with
      | none => rw [hrc] at h'; cases h'
      | some q =>
       rw [hrc] at h'
       have C := hc q hrc
       cases q with
       | ex c' =>
        cases h'
        exact ⟨_, _, _, A, B, C, λ σ H Q ⟨O, W, R, p⟩ => ⟨O, W, R, λ x H1 s1 g1 => ⟨O, W, R.mono s1, λ y H2 s2 g2 =>
         ⟨dx, dy, true, e1, (g1.mono s2).all ((R.hid.mono s1).mono s2), g2.all ((R.mono s1).hid.mono s2), true, rfl, by rw [if_pos rfl]; exact ⟨O, W, (R.mono s1).mono s2, λ H' C m s => p H' C m (s1.trans (s2.trans s))⟩⟩⟩⟩, λ d cl z => nomatch z⟩
       | ok dz cz =>
        obtain ⟨k, e2, e3⟩ := Option.map_eq_some_iff.mp (show ((cmpD op' dy dz).map λ k => Re.ok (.bl k) .strong) = some re from h')
        cases e3
        exact ⟨_, _, _, A, B, C, λ σ H Q ⟨O, W, R, p⟩ => ⟨O, W, R, λ x H1 s1 g1 => ⟨O, W, R.mono s1, λ y H2 s2 g2 =>
         ⟨dx, dy, true, e1, (g1.mono s2).all ((R.hid.mono s1).mono s2), g2.all ((R.mono s1).hid.mono s2), true, rfl, by
          rw [if_pos rfl]
          exact ⟨O, W, (R.mono s1).mono s2, λ z H3 s3 g3 => ⟨dy, dz, k, e2, (g2.mono s3).all (((R.mono s1).hid.mono s2).mono s3), g3.all (((R.mono s1).mono s2).hid.mono s3), p _ _ (s1.trans (s2.trans s3)) q4p⟩⟩⟩⟩⟩, λ d cl z => by cases z; exact ⟨_, rfl⟩⟩
theorem q8O {op op' : CmpOp} (hu : X.A.units + 64 < cLine) (ha : ∀ q, ra = some q -> PE X a (dE X.D E δ q)) (hb : ∀ q, rb = some q -> PE X b (dE X.D E δ q)) (hc : ∀ q, rc = some q -> PE X c (dE X.D E δ q)) (hs : q2H c = false)
  (h : (Re.thn ra λ x _ => Re.thn rb λ y _ => match cmpD op x y with
   | none => none
   | some false => some (.ok (.bl false) .strong)
   | some true => Re.thn rc λ z _ => (cmpD op' y z).map λ k => .ok (.bl k) .strong) = some re) : PE X (.Compare a [op, op'] [b, c] pos) (dE X.D E δ re) := by
 obtain ⟨ta, tb, tc, A, B, C, w, _⟩ := q4h ha hb hc h
 exact (z1a (q4Q hu) (q4Q hu) A B C (q3E hs)).weak w
theorem q7N {op op' : CmpOp} {r : Rt} (hu : X.A.units + 64 < cLine) (ha : ∀ q, ra = some q -> PE X a (dE X.D E δ q)) (hb : ∀ q, rb = some q -> PE X b (dE X.D E δ q)) (hc : ∀ q, rc = some q -> PE X c (dE X.D E δ q)) (hs : q2H c = false)
  (h : tstD (Re.thn ra λ x _ => Re.thn rb λ y _ => match cmpD op x y with
   | none => none
   | some false => some (.ok (.bl false) .strong)
   | some true => Re.thn rc λ z _ => (cmpD op' y z).map λ k => .ok (.bl k) .strong) = some r) : PT X (.Compare a [op, op'] [b, c] pos) (dT X.D E δ r) := by
 cases q : (Re.thn ra λ x _ => Re.thn rb λ y _ => match cmpD op x y with
   | none => none
   | some false => some (Re.ok (.bl false) .strong)
   | some true => Re.thn rc λ z _ => (cmpD op' y z).map λ k => .ok (.bl k) .strong) with
 | none => rw [q] at h; cases h
 | some re =>
  rw [q] at h
  obtain ⟨ta, tb, tc, A, B, C, w, hbl⟩ := q4h ha hb hc q
  exact (z0h (q4Q hu) (q4Q hu) A B C (q3E hs)).weak λ σ H Q z => w σ H _ (z1y hbl h z)
end
section
variable {X : Cx} {E : St -> XK} {δ : List Sv} {a b c e : Expr} {es : List Expr} {pos : Pos} {ra : Option Re} {rt ru : Option Rt} {r : Rt} {re : Re}
theorem q4G {D : Dm} {H : Hp} {d : DV} {v : V} {k : Bool} (h : q2n d = some k) (r : Rep D H d v) : TruV D.K v H k := by
 cases d with
 | non => cases h; rw [q2x.mp r]; rfl
 | bl b => cases h; rw [q4f.mp r]; rfl
 | int i => cases h; rw [q0B.mp r]; rfl
 | str x =>
  cases h
  obtain ⟨e1, e2⟩ := q2c.mp r
  rw [e1]
  refine ⟨e2, ?_⟩
  show (x.cps.size != 0) = (((x.cps.size : Nat) : Int) != 0)
  cases x.cps.size with
  | zero => rfl
  | succ n => simp only [bne, Nat.add_eq_zero_iff]; rw [Bool.eq_iff_iff]; simp; omega
 | tup ds =>
  cases h
  obtain ⟨a, xs, e1, e2, e3⟩ := q0S.mp r
  rw [e1]
  refine .inr (.inl ⟨xs, e2, ?_⟩)
  have := e3.length
  cases xs <;> cases ds <;> first | rfl | cases this
 | lst ds =>
  cases h
  obtain ⟨a, xs, e1, e2, e3⟩ := q0L.mp r
  rw [e1]
  refine .inl ⟨xs, SqL.of e2, ?_⟩
  have := e3.length
  cases xs <;> cases ds <;> first | rfl | cases this
 | dct _ _ => exact absurd r q3y
 | exc _ => cases h
 | fn _ => cases h
 | scr _ => cases h
theorem q9Q (ha : ∀ q, ra = some q -> PE X e (dE X.D E δ q)) (he : ∀ whole, isTrue e X.env whole = (do let v ← whole; standAt e.pos; holding [v] (truthy v))) (h : tstD ra = some r) : PT X e (dT X.D E δ r) := by
 cases hra : ra with
 | none => rw [hra] at h; cases h
 | some q =>
  rw [hra] at h
  have A := ha q hra
  cases q with
  | ex c => cases h; exact (q6U A he).weak λ σ H Q ⟨O, W, R, p⟩ => ⟨O, W, R, p⟩
  | ok d cl =>
   obtain ⟨k, e1, e2⟩ := Option.map_eq_some_iff.mp (show (q2n d).map Rt.ok = some r from h)
   cases e2
   exact (q6U A he).weak λ σ H Q ⟨O, W, R, p⟩ => ⟨O, W, R, λ x H1 s1 g1 => ⟨k, q4G e1 (g1.all (R.hid.mono s1)), p H1 s1⟩⟩
theorem z3K {ta : TE} (ha : PE X a ta) : PE X (.UnaryOp .Not a pos) (tUn (λ x H Q => ∃ k, TruV X.K x H k /\ Q (.bl (!k)) H) ta) := by
 intro pins s σ H Q I h
 refine UnaryOp_ (thn (ha pins s σ H _ I h) λ v s1 ⟨x, H1, I1, r1, q1⟩ => ?_)
 obtain ⟨k, t, q1⟩ := q1
 exact not_of (thn (q7a pins s1 σ H1 x v (λ b H' => b = k /\ H' = H1) I1 r1 ⟨k, t, rfl, rfl⟩) λ b s2 ⟨H2, I2, e1, e2⟩ => by
  subst e1 e2
  exact ⟨.bl (!b), H2, I2, rfl, q1⟩)
theorem z2B (ha : ∀ q, ra = some q -> PE X a (dE X.D E δ q)) (h : (Re.thn ra λ x _ => (q2n x).map λ k => .ok (.bl (!k)) .strong) = some re) : PE X (.UnaryOp .Not a pos) (dE X.D E δ re) :=
 z1r (λ _ => z3K) ha h λ O W H0 H x Q dx cx σ k hd gx p => by
  obtain ⟨b, e1, e2⟩ := Option.map_eq_some_iff.mp k
  cases e2
  exact ⟨b, q4G e1 (gx.all hd), p _ H (Same.refl H) q4p⟩
theorem q6w {ta tb : TE} (ha : PE X a ta) (hb : PE X (.BoolOp .And (b :: es) pos) tb) : PE X (.BoolOp .And (a :: b :: es) pos) (λ σ H Q => ta σ H λ x H1 => ∃ k, TruV X.K x H1 k /\ if k = true then tb σ H1 Q else Q x H1) := by
 intro pins s σ H Q I h
 refine BoolOp_and (thn (ha pins s σ H _ I h) λ v s1 ⟨x, H1, I1, r1, q1⟩ => ?_)
 obtain ⟨k, t, q1⟩ := q1
 refine thn (q7a pins s1 σ H1 x v (λ b H' => b = k /\ H' = H1) I1 r1 ⟨k, t, rfl, rfl⟩) λ c s2 ⟨H2, I2, e1, e2⟩ => ?_
 subst e1 e2
 cases c with
 | true => exact hb pins s2 σ H2 Q I2 q1
 | false => exact ⟨x, H2, I2, r1, q1⟩
theorem q8X {ta tb : TE} (ha : PE X a ta) (hb : PE X (.BoolOp .Or (b :: es) pos) tb) : PE X (.BoolOp .Or (a :: b :: es) pos) (λ σ H Q => ta σ H λ x H1 => ∃ k, TruV X.K x H1 k /\ if k = true then Q x H1 else tb σ H1 Q) := by
 intro pins s σ H Q I h
 refine BoolOp_or (thn (ha pins s σ H _ I h) λ v s1 ⟨x, H1, I1, r1, q1⟩ => ?_)
 obtain ⟨k, t, q1⟩ := q1
 refine thn (q7a pins s1 σ H1 x v (λ b H' => b = k /\ H' = H1) I1 r1 ⟨k, t, rfl, rfl⟩) λ c s2 ⟨H2, I2, e1, e2⟩ => ?_
 subst e1 e2
 cases c with
 | false => exact hb pins s2 σ H2 Q I2 q1
 | true => exact ⟨x, H2, I2, r1, q1⟩
theorem z3y {rb : Option Re} (ha : ∀ q, ra = some q -> PE X a (dE X.D E δ q)) (hb : ∀ q, rb = some q -> PE X (.BoolOp .And (b :: es) pos) (dE X.D E δ q)) (h : (Re.thn ra λ x c => andD x c rb) = some re) : PE X (.BoolOp .And (a :: b :: es) pos) (dE X.D E δ re) := by
 cases hra : ra with
 | none => rw [hra] at h; cases h
 | some q =>
  rw [hra] at h
  have A := ha q hra
  cases q with
  | ex c => cases h; exact (q6w A q1i).weak λ σ H Q ⟨O, W, R, p⟩ => ⟨O, W, R, p⟩
  | ok d cl =>
   have h' : andD d cl rb = some re := h
   unfold andD at h'
   split at h'
   ·cases h'
   ·rename_i t
    exact (q6w A (hb re h')).weak λ σ H Q ⟨O, W, R, p⟩ => ⟨O, W, R, λ x H1 s1 g1 => ⟨true, q4G t (g1.all (R.hid.mono s1)), iteT ⟨O, W, R.mono s1, p.later s1 s1⟩⟩⟩
   ·rename_i t
    cases h'
    exact (q6w A q1i).weak λ σ H Q ⟨O, W, R, p⟩ => ⟨O, W, R, λ x H1 s1 g1 => ⟨false, q4G t (g1.all (R.hid.mono s1)), iteF (p _ H1 s1 g1)⟩⟩
theorem z5I {rb : Option Re} (ha : ∀ q, ra = some q -> PE X a (dE X.D E δ q)) (hb : ∀ q, rb = some q -> PE X (.BoolOp .Or (b :: es) pos) (dE X.D E δ q)) (h : (Re.thn ra λ x c => orD x c rb) = some re) : PE X (.BoolOp .Or (a :: b :: es) pos) (dE X.D E δ re) := by
 cases hra : ra with
 | none => rw [hra] at h; cases h
 | some q =>
  rw [hra] at h
  have A := ha q hra
  cases q with
  | ex c => cases h; exact (q8X A q1i).weak λ σ H Q ⟨O, W, R, p⟩ => ⟨O, W, R, p⟩
  | ok d cl =>
   have h' : orD d cl rb = some re := h
   unfold orD at h'
   split at h'
   ·cases h'
   ·rename_i t
    cases h'
    exact (q8X A q1i).weak λ σ H Q ⟨O, W, R, p⟩ => ⟨O, W, R, λ x H1 s1 g1 => ⟨true, q4G t (g1.all (R.hid.mono s1)), iteT (p _ H1 s1 g1)⟩⟩
   ·rename_i t
    exact (q8X A (hb re h')).weak λ σ H Q ⟨O, W, R, p⟩ => ⟨O, W, R, λ x H1 s1 g1 => ⟨false, q4G t (g1.all (R.hid.mono s1)), iteF ⟨O, W, R.mono s1, p.later s1 s1⟩⟩⟩
theorem q6z {k : DV -> Cl -> Option Re} (h : tstD (Re.thn ra k) = some r) : (ra = none /\ False) \/ (∃ c, ra = some (.ex c) /\ r = .ex c) \/ ∃ d c, ra = some (.ok d c) /\ tstD (k d c) = some r := by
 cases hra : ra with
 | none => rw [hra] at h; cases h
 | some q =>
  rw [hra] at h
  cases q with
  | ex c => cases h; exact .inr (.inl ⟨c, rfl, rfl⟩)
  | ok d c => exact .inr (.inr ⟨d, c, rfl, h⟩)
theorem z1R {d : DV} {c : Cl} {r : Rt} (h : tstD (some (.ok d c)) = some r) : ∃ k, q2n d = some k /\ r = .ok k := by
 obtain ⟨k, e1, e2⟩ := Option.map_eq_some_iff.mp (show (q2n d).map Rt.ok = some r from h)
 exact ⟨k, e1, e2.symm⟩
theorem z0I (ha : ∀ q, tstD ra = some q -> PT X a (dT X.D E δ q)) (h : tstD (Re.thn ra λ x _ => (q2n x).map λ k => .ok (.bl (!k)) .strong) = some r) : PT X (.UnaryOp .Not a pos) (dT X.D E δ r) := by
 rcases q6z h with ⟨_, z⟩ | ⟨c, e1, e2⟩ | ⟨d, c, e1, e2⟩
 ·exact z.elim
 ·subst e1 e2
  exact (z1s (ha (.ex c) rfl)).weak λ σ H Q ⟨O, W, R, p⟩ => ⟨O, W, R, p⟩
 ·cases t : q2n d with
  | none => rw [t] at e2; cases e2
  | some k =>
   rw [t] at e2
   cases e2
   have A := ha (.ok k) (by rw [e1]; show (q2n d).map Rt.ok = _; rw [t]; rfl)
   exact (z1s A).weak λ σ H Q ⟨O, W, R, p⟩ => ⟨O, W, R, λ H1 s1 => p H1 s1⟩
theorem z0i {rb : Option Re} (ha : ∀ q, tstD ra = some q -> PT X a (dT X.D E δ q)) (hb : ∀ q, tstD rb = some q -> PW X (.BoolOp .And (b :: es) pos) (dT X.D E δ q)) (h : tstD (Re.thn ra λ x c => andD x c rb) = some r) : PW X (.BoolOp .And (a :: b :: es) pos) (dT X.D E δ r) := by
 rcases q6z h with ⟨_, z⟩ | ⟨c, e1, e2⟩ | ⟨d, c, e1, e2⟩
 ·exact z.elim
 ·subst e1 e2
  exact (q9b (ha (.ex c) rfl) q5c).weak λ σ H Q ⟨O, W, R, p⟩ => ⟨O, W, R, p⟩
 ·unfold andD at e2
  cases t : q2n d with
  | none => rw [t] at e2; cases e2
  | some k =>
   rw [t] at e2
   have A := ha (.ok k) (by rw [e1]; show (q2n d).map Rt.ok = _; rw [t]; rfl)
   cases k with
   | true => exact (q9b A (hb r e2)).weak λ σ H Q ⟨O, W, R, p⟩ => ⟨O, W, R, λ H1 s1 => iteT ⟨O, W, R.mono s1, p.later s1⟩⟩
   | false =>
    obtain ⟨k, t', rfl⟩ := z1R e2
    rw [t] at t'; cases t'
    exact (q9b A q5c).weak λ σ H Q ⟨O, W, R, p⟩ => ⟨O, W, R, λ H1 s1 => iteF (p H1 s1)⟩
theorem z2M {rb : Option Re} (ha : ∀ q, tstD ra = some q -> PT X a (dT X.D E δ q)) (hb : ∀ q, tstD rb = some q -> PW X (.BoolOp .Or (b :: es) pos) (dT X.D E δ q)) (h : tstD (Re.thn ra λ x c => orD x c rb) = some r) : PW X (.BoolOp .Or (a :: b :: es) pos) (dT X.D E δ r) := by
 rcases q6z h with ⟨_, z⟩ | ⟨c, e1, e2⟩ | ⟨d, c, e1, e2⟩
 ·exact z.elim
 ·subst e1 e2
  exact (z2a (ha (.ex c) rfl) q5c).weak λ σ H Q ⟨O, W, R, p⟩ => ⟨O, W, R, p⟩
 ·unfold orD at e2
  cases t : q2n d with
  | none => rw [t] at e2; cases e2
  | some k =>
   rw [t] at e2
   have A := ha (.ok k) (by rw [e1]; show (q2n d).map Rt.ok = _; rw [t]; rfl)
   cases k with
   | false => exact (z2a A (hb r e2)).weak λ σ H Q ⟨O, W, R, p⟩ => ⟨O, W, R, λ H1 s1 => iteF ⟨O, W, R.mono s1, p.later s1⟩⟩
   | true =>
    obtain ⟨k, t', rfl⟩ := z1R e2
    rw [t] at t'; cases t'
    exact (z2a A q5c).weak λ σ H Q ⟨O, W, R, p⟩ => ⟨O, W, R, λ H1 s1 => iteT (p H1 s1)⟩
theorem q4W {tc t u : TT} (hc : PT X c tc) (ha : PT X a t) (hb : PT X b u) : PT X (.IfExp c a b pos) (λ σ H Q => tc σ H λ k H1 => if k = true then t σ H1 Q else u σ H1 Q) := by
 intro pins s σ H Q I h
 refine isTrue_IfExp (thn (hc pins s σ H _ I h) λ k s1 ⟨H1, I1, q1⟩ => ?_)
 cases k with
 | true => exact ha pins s1 σ H1 Q I1 q1
 | false => exact hb pins s1 σ H1 Q I1 q1
theorem z0T {rb : Option Re} (hc : ∀ q, rt = some q -> PT X c (dT X.D E δ q)) (ha : ∀ q, tstD ra = some q -> PT X a (dT X.D E δ q)) (hb : ∀ q, tstD rb = some q -> PT X b (dT X.D E δ q)) (h : tstD (Rt.thn rt λ k => if k then ra else rb) = some r) : PT X (.IfExp c a b pos) (dT X.D E δ r) := by
 cases hrt : rt with
 | none => rw [hrt] at h; cases h
 | some q =>
  rw [hrt] at h
  have C := hc q hrt
  cases q with
  | ex c => cases h; exact (q4W C q5j q5j).weak λ σ H Q ⟨O, W, R, p⟩ => ⟨O, W, R, p⟩
  | ok k =>
   cases k with
   | true => exact (q4W C (ha r h) q5j).weak λ σ H Q ⟨O, W, R, p⟩ => ⟨O, W, R, λ H1 s1 => iteT ⟨O, W, R.mono s1, p.later s1⟩⟩
   | false => exact (q4W C q5j (hb r h)).weak λ σ H Q ⟨O, W, R, p⟩ => ⟨O, W, R, λ H1 s1 => iteF ⟨O, W, R.mono s1, p.later s1⟩⟩
theorem z3e {rb rc : Option Re} (hc : ∀ q, rt = some q -> PT X c (dT X.D E δ q)) (ha : ∀ q, rb = some q -> PE X a (dE X.D E δ q)) (hb : ∀ q, rc = some q -> PE X b (dE X.D E δ q))
  (h : (Rt.thn rt λ k => if k then rb else rc) = some re) : PE X (.IfExp c a b pos) (dE X.D E δ re) := by
 cases hrt : rt with
 | none => rw [hrt] at h; cases h
 | some q =>
  rw [hrt] at h
  have C := hc q hrt
  cases q with
  | ex c => cases h; exact (q4T C q1i q1i).weak λ σ H Q ⟨O, W, R, p⟩ => ⟨O, W, R, p⟩
  | ok k =>
   cases k with
   | true =>
    have h' : rb = some re := h
    exact (q4T C (ha re h') q1i).weak λ σ H Q ⟨O, W, R, p⟩ => ⟨O, W, R, λ H1 s1 => iteT ⟨O, W, R.mono s1, p.later s1 s1⟩⟩
   | false =>
    have h' : rc = some re := h
    exact (q4T C q1i (hb re h')).weak λ σ H Q ⟨O, W, R, p⟩ => ⟨O, W, R, λ H1 s1 => iteF ⟨O, W, R.mono s1, p.later s1 s1⟩⟩
theorem q0s {e : Expr} {es : List Expr} {env : Env} (h : q0p e = false) : starEach (e :: es) env = (false, eval e env) :: starEach es env := by
 cases e <;> first | rfl | cases h
theorem z0u : PA X [] (dA X.D E δ (.ok [])) := q4J.weak λ σ H Q ⟨O, W, R, p⟩ => p [] H (Same.refl H) .nil
theorem q9i {rs : Option Rs} {q : Rs} (hs : q0p e = false) (ha : ∀ q, ra = some q -> PE X e (dE X.D E δ q)) (hb : ∀ q, rs = some q -> PA X es (dA X.D E δ q))
  (h : (match (generalizing := false) ra with | none => none | some (.ex c) => some (Rs.ex c) | some (.ok d c) => (match (generalizing := false) rs with | none => none | some (.ex c) => some (.ex c) | some (.ok l) => some (.ok ((d, c) :: l)))) = some q) : PA X (e :: es) (dA X.D E δ q) := by
 cases hra : ra with
 | none => rw [hra] at h; cases h
 | some z =>
  rw [hra] at h
  have A := ha z hra
  cases z with
  | ex c => cases h; exact (q2a A z3j (q0s hs)).weak λ σ H Q ⟨O, W, R, p⟩ => ⟨O, W, R, p⟩
  | ok d cl =>
   cases hrs : rs with
   | none => rw [hrs] at h; cases h
   | some y =>
    rw [hrs] at h
    have B := hb y hrs
    cases y with
    | ex c => cases h; exact (q2a A B (q0s hs)).weak λ σ H Q ⟨O, W, R, p⟩ => ⟨O, W, R, λ x H1 s1 g1 => ⟨O, W, R.mono s1, λ H' C m s => p H' C m (s1.trans s)⟩⟩
    | ok l =>
     cases h
     exact (q2a A B (q0s hs)).weak λ σ H Q ⟨O, W, R, p⟩ => ⟨O, W, R, λ x H1 s1 g1 => ⟨O, W, R.mono s1, λ vs H2 s2 g2 => p _ H2 (s1.trans s2) (.cons (g1.mono s2) (g2.since s1))⟩⟩
theorem z1X {rs : Option Rs} (ha : ∀ q, rs = some q -> PA X es (dA X.D E δ q)) (h : (Rs.thn rs λ l => if l.length <= mostLen then some (.ok (.lst (l.map (·.1))) (if stros l then .fresh else .weak)) else none) = some re) : PE X (.List es pos) (dE X.D E δ re) :=
 q2A (r := λ vs H Q => vs.length <= sizeLine /\ ∀ p, H p = none -> Q (.ref p) (upd H p (.lst vs))) (λ _ => z4b) ha h λ O W H0 H vs Q l σ k hd g p => by
  split at k
  ·rename_i m
   cases k
   refine ⟨by rw [g.length]; exact q1D m, λ q hq => p _ _ (q0o hq) ?_⟩
   by_cases z : stros l = true
   ·rw [if_pos z]; exact q1F hd hq (g.stros hd z)
   ·rw [if_neg z]; exact q5k hd hq (g.repL hd)
  ·cases k
theorem z3A {rs : Option Rs} {x1 : Nat} (ha : ∀ q, rs = some q -> PA X es (dA X.D E δ q)) (h : (Rs.thn rs λ l => if l.length <= mostLen then some (.ok (.tup (l.map (·.1))) (if stros l then .strong else .weak)) else none) = some re) : PE X (.Tuple es x1 pos) (dE X.D E δ re) :=
 q2A (r := λ vs H Q => vs.length <= sizeLine /\ ∀ p, H p = none -> Q (.ref p) (upd H p (.tup vs))) (λ _ => q8J) ha h λ O W H0 H vs Q l σ k hd g p => by
  split at k
  ·rename_i m
   cases k
   refine ⟨by rw [g.length]; exact q1D m, λ q hq => p _ _ (q0o hq) ?_⟩
   by_cases z : stros l = true
   ·rw [if_pos z]; exact q3l hd hq (g.stros hd z)
   ·rw [if_neg z]; exact q5o hd hq (g.repL hd)
  ·cases k
end
end L2
end
section
namespace L2
open PySem PySem.Spec PyProof.Rows
noncomputable def GotR (D : Dm) (O : List Addr) (H0 H : Hp) (d : DV) (fr : Bool) (v : V) : Prop := match fr with
 | false => Rep D (L2.wo O H) d v
 | true => ∃ p xs ds, v = .ref p /\ d = .lst ds /\ H0 p = none /\ H p = some (.lst xs) /\ RepL D (L2.wo (p :: O) H) ds xs
noncomputable def GotT (D : Dm) (O : List Addr) (H0 H : Hp) (d : DV) (v : V) : Prop := ∃ t ts p xs ds es, v = .ref t /\ d = .tup (.lst ds :: es) /\ SqT D.K (L2.wo O H) t (.ref p :: ts) /\ H0 p = none /\ H p = some (.lst xs) /\ RepL D (L2.wo (p :: O) H) ds xs /\ RepL D (L2.wo (p :: O) H) es ts
noncomputable def spF (D : Dm) (n : Nat) (f : List DV -> Option Ou) : Sp := λ vs H Q E => ∃ O ds o, (∀ a ∈ O, H a ≠ none) /\ ds.length = n /\ RepL D (L2.wo O H) ds vs /\ f ds = some o /\
 (match o with | .v d fr => ∀ v H', Same H H' -> GotR D O H H' d fr v -> Q v H' | .t d => ∀ v H', Same H H' -> GotT D O H H' d v -> Q v H' | .x c => ∀ H' C, D.mg c = some C -> Same H H' -> E C none H')
section
variable {X : Cx} {E : St -> XK} {δ : List Sv} {e : Expr} {es : List Expr} {pos p : Pos} {re : Re} {rs : Option Rs} {k : Nat} {fa : Addr} {fd : FuncData} {ps : List Str} {x : Str}
theorem z1c {F : Nat -> List DV -> Option Ou} {f : Nat} (fo : FnOk X.prog X.w X.K X.mg X.base (CXx X.prog X.w X.base) k fa fd ps (spF X.D ps.length (F f))) (hn : ∀ ds o, F f ds = some o -> ds.length = ps.length) (hr : Room k X.A) (hg : Gl X x) (hm : X.mg x = some (.ref fa)) (hk : PySem.W.keepIn X.K (.ref fa) = true)
  (hb : q6m X.K fd ps []) (hx : q4s (CXx X.prog X.w X.base) X E) (ha : ∀ q, rs = some q -> PA X (e :: es) (dA X.D E δ q)) (hdb : (x == ("__debug__" : Str)) = false) (hs : q0p e = false) (hss : es.any q0p = false)
  (h : (Rs.thn rs λ l => q4x F f l) = some re) : PE X (.Call (.Name x p) (e :: es) [] pos) (dE X.D E δ re) := by
 have plain : ∀ (es : List Expr), es.any q0p = false -> (backTo pos (starEach es X.env)).any (·.1) = false := by
  intro es
  induction es with
  | nil => intro _; rfl
  | cons y ys ih =>
   intro q
   rw [List.any_cons, Bool.or_eq_false_iff] at q
   rw [q0s q.1]
   show (false || (backTo pos (starEach ys X.env)).any (·.1)) = false
   rw [ih q.2]; rfl
 have C := λ t (hA : PA X (e :: es) t) => z0x (p := p) (pos := pos) fo hr hg hm hk hb .nil hx hA hdb (q0s hs) (plain es hss)
 cases hrs : rs with
 | none => rw [hrs] at h; cases h
 | some q =>
  rw [hrs] at h
  have A := ha q hrs
  cases q with
  | ex c => cases h; exact (C _ A).weak λ σ H Q ⟨O, W, R, p⟩ => ⟨O, W, R, p⟩
  | ok l =>
   have h' : q4x F f l = some re := h
   unfold q4x at h'
   split at h'
   ·cases h'
   ·rename_i c e1
    cases h'
    refine (C _ A).weak λ σ H Q ⟨O, W, R, p⟩ => ⟨O, W, R, λ vs H1 s1 g1 => ?_⟩
    have hd := R.hid.mono s1
    show spF X.D ps.length (F f) (vs ++ []) H1 Q (E σ)
    rw [List.append_nil]
    exact ⟨O, _, _, λ a ha q => hd.ot a (List.mem_append_left _ ha) (s1.free q), hn _ _ e1, g1.repL hd, e1, λ H' C m s => p H' C m (s1.trans s)⟩
   ·rename_i d e1
    cases h'
    refine (C _ A).weak λ σ H Q ⟨O, W, R, p⟩ => ⟨O, W, R, λ vs H1 s1 g1 => ?_⟩
    have hd := R.hid.mono s1
    show spF X.D ps.length (F f) (vs ++ []) H1 Q (E σ)
    rw [List.append_nil]
    by_cases z : (l.all λ p => p.2 == .strong || p.2 == .fresh) = true
    ·rw [if_pos z] at p
     refine ⟨O ++ W, _, _, λ a ha q => hd.ot a ha (s1.free q), hn _ _ e1, g1.strong hd z, e1, λ v H' s g => p v H' (s1.trans s) ?_⟩
     obtain ⟨t, ts, q, xs, ds, es, f1, f2, f0, f3, f4, f5, f6⟩ := g
     exact ⟨t, ts, q, xs, ds, es, f1, f2, f0, s1.free f3, f4, f5, f6⟩
    ·rw [if_neg z] at p
     refine ⟨O, _, _, λ a ha q => hd.ot a (List.mem_append_left _ ha) (s1.free q), hn _ _ e1, g1.repL hd, e1, λ v H' s g => p v H' (s1.trans s) ?_⟩
     obtain ⟨t, ts, q, xs, ds, es, f1, f2, f0, f3, f4, f5, f6⟩ := g
     have hq : q ∉ O := λ z => hd.ot q (List.mem_append_left _ z) (s1.free f3)
     have up : Same (L2.wo (q :: O) H') (L2.wo O H') := q0Q λ b hb => List.mem_cons_of_mem _ hb
     rw [f2]
     exact q0S.mpr ⟨t, _, f1, f0, q0m.mpr ⟨_, _, rfl, q0L.mpr ⟨q, xs, rfl, by rw [q0A hq]; exact f4, f5.mono up⟩, f6.mono up⟩⟩
   ·rename_i d fr e1
    cases h'
    refine (C _ A).weak λ σ H Q ⟨O, W, R, p⟩ => ⟨O, W, R, λ vs H1 s1 g1 => ?_⟩
    have hd := R.hid.mono s1
    show spF X.D ps.length (F f) (vs ++ []) H1 Q (E σ)
    rw [List.append_nil]
    by_cases z : (l.all λ p => p.2 == .strong || p.2 == .fresh) = true
    ·rw [if_pos z] at p
     refine ⟨O ++ W, _, _, λ a ha q => hd.ot a ha (s1.free q), hn _ _ e1, g1.strong hd z, e1, λ v H' s g => p v H' (s1.trans s) ?_⟩
     cases fr with
     | false => exact g
     | true =>
      obtain ⟨q, xs, ds, e1, e2, e3, e4, e5⟩ := g
      exact ⟨q, xs, ds, e1, e2, s1.free e3, e4, e5⟩
    ·rw [if_neg z] at p
     refine ⟨O, _, _, λ a ha q => hd.ot a (List.mem_append_left _ ha) (s1.free q), hn _ _ e1, g1.repL hd, e1, λ v H' s g => p v H' (s1.trans s) ?_⟩
     cases fr with
     | false => exact g
     | true =>
      obtain ⟨q, xs, ds, e1, e2, e3, e4, e5⟩ := g
      have hq : q ∉ O := λ z => hd.ot q (List.mem_append_left _ z) (s1.free e3)
      rw [e2]
      exact q0L.mpr ⟨q, xs, e1, by rw [q0A hq]; exact e4, e5.mono (q0Q λ b hb => List.mem_cons_of_mem _ hb)⟩
end
section
variable {X : Cx} {E : St -> XK} {δ : List Sv} {e : Expr} {es : List Expr} {pos p : Pos} {re : Re} {rs : Option Rs}
theorem q2z {env : Env} {pos : Pos} : ∀ (es : List Expr), es.any q0p = false -> (backTo pos (starEach es env)).any (·.1) = false
 | [], _ => rfl
 | y :: ys, q => by
  rw [List.any_cons, Bool.or_eq_false_iff] at q
  rw [q0s q.1]
  show (false || (backTo pos (starEach ys env)).any (·.1)) = false
  rw [q2z ys q.2]; rfl
noncomputable def biR (X : Cx) (k : List (DV × Cl) -> Option Re) : List V -> Hp -> VK -> Prop := λ vs H Q => ∃ l re O W H0, k l = some re /\ Hid O W H0 H /\ GotL X.D O W H0 H l vs /\ ∃ d c, re = .ok d c /\ ∀ v H', Same H H' -> Got X.D O W H0 H' d c v -> Q v H'
theorem z1V {k : List (DV × Cl) -> Option Re} {x : Str} {id : String} (hc : q2h X (.builtin id) (biR X k)) (hk : ∀ l re, k l = some re -> ∃ d c, re = .ok d c) (hg : Gl X x) (hm : X.mg x = none) (hv : bootBuiltins x = some (.builtin id)) (hn : x ≠ "__name__") (hdb : (x == ("__debug__" : Str)) = false)
  (ha : ∀ q, rs = some q -> PA X (e :: es) (dA X.D E δ q)) (hs : q0p e = false) (hss : es.any q0p = false) (h : Rs.thn rs k = some re) : PE X (.Call (.Name x p) (e :: es) [] pos) (dE X.D E δ re) :=
 q2A (λ _ hA => q5v hc hg hm hv hA hn hdb (q0s hs) (q2z es hss)) ha h λ O W H0 H vs Q l σ hl hd g p => by
  obtain ⟨d, c, rfl⟩ := hk l re hl
  exact ⟨l, _, O, W, H0, hl, hd, g, d, c, rfl, p⟩
theorem q6E {k : List (DV × Cl) -> Option Re} {x : Str} {T : String} (hc : q2h X (.type T) (biR X k)) (hk : ∀ l re, k l = some re -> ∃ d c, re = .ok d c) (hg : Gl X x) (hm : X.mg x = none) (hv : bootBuiltins x = some (.type T)) (hn : x ≠ "__name__") (hdb : (x == ("__debug__" : Str)) = false)
  (ha : ∀ q, rs = some q -> PA X (e :: es) (dA X.D E δ q)) (hs : q0p e = false) (hss : es.any q0p = false) (h : Rs.thn rs k = some re) : PE X (.Call (.Name x p) (e :: es) [] pos) (dE X.D E δ re) :=
 q2A (λ _ hA => q5Y hc hg hm hv hA hn hdb (q0s hs) (q2z es hss)) ha h λ O W H0 H vs Q l σ hl hd g p => by
  obtain ⟨d, c, rfl⟩ := hk l re hl
  exact ⟨l, _, O, W, H0, hl, hd, g, d, c, rfl, p⟩
theorem z3v : ∀ l re, lenD l = some re -> ∃ d c, re = .ok d c := λ l re h => by unfold lenD at h; split at h <;> cases h <;> exact ⟨_, _, rfl⟩
theorem z3F : ∀ l re, minD l = some re -> ∃ d c, re = .ok d c := λ l re h => by
 unfold minD at h
 split at h
 ·cases h; exact ⟨_, _, rfl⟩
 ·split at h
  ·cases h; exact ⟨_, _, rfl⟩
  ·cases h
 ·cases h
theorem q5s {D : Dm} {H : Hp} : ∀ {ds : List DV} {ns : List Int} {xs : List V}, ints? ds = some ns -> RepL D H ds xs -> xs = ns.map V.int
 | [], ns, xs, h, r => by
  cases h
  exact q0C.mp r
 | .int i :: ds, ns, xs, h, r => by
  have h' : (ints? ds).map (i :: ·) = some ns := h
  obtain ⟨ms, e1, e2⟩ := Option.map_eq_some_iff.mp h'
  obtain ⟨v, vs, e3, e4, e5⟩ := q0m.mp r
  have q := q5s e1 e5
  rw [← e2, e3, List.map_cons, q0B.mp e4, q]
 | .non :: ds, ns, xs, h, _ => by cases h
 | .bl _ :: ds, ns, xs, h, _ => by cases h
 | .str _ :: ds, ns, xs, h, _ => by cases h
 | .tup _ :: ds, ns, xs, h, _ => by cases h
 | .lst _ :: ds, ns, xs, h, _ => by cases h
 | .dct _ _ :: ds, ns, xs, h, _ => by cases h
 | .exc _ :: ds, ns, xs, h, _ => by cases h
 | .fn _ :: ds, ns, xs, h, _ => by cases h
 | .scr _ :: ds, ns, xs, h, _ => by cases h
theorem q7d : ∀ (r : List Int) (m : Int), (minI m r = m \/ minI m r ∈ r) /\ minI m r <= m /\ ∀ x ∈ r, minI m r <= x
 | [], m => ⟨.inl rfl, Int.le_refl _, λ x h => by cases h⟩
 | y :: r, m => by
  obtain ⟨h0, h1, h2⟩ := q7d r (if y < m then y else m)
  unfold minI
  by_cases q : y < m
  ·rw [if_pos q] at h0 h1 h2 ⊢
   refine ⟨.inr ?_, by omega, λ x hx => ?_⟩
   ·rcases h0 with z | z
    ·rw [z]; exact List.mem_cons_self ..
    ·exact List.mem_cons_of_mem _ z
   ·rcases List.mem_cons.mp hx with z | z
    ·rw [z]; exact h1
    ·exact h2 x z
  ·rw [if_neg q] at h0 h1 h2 ⊢
   refine ⟨h0.imp id (List.mem_cons_of_mem _), h1, λ x hx => ?_⟩
   rcases List.mem_cons.mp hx with z | z
   ·rw [z]; omega
   ·exact h2 x z
theorem z0m {n M : Int} {r : List Int} (h1 : M ∈ n :: r) (h2 : ∀ x ∈ n :: r, M <= x) : M = minI n r := by
 obtain ⟨a, b, c⟩ := q7d r n
 have d : minI n r ∈ n :: r := a.elim (λ z => by rw [z]; exact List.mem_cons_self ..) (List.mem_cons_of_mem _)
 have e := h2 _ d
 have f : minI n r <= M := by
  rcases List.mem_cons.mp h1 with z | z
  ·rw [z]; exact b
  ·exact c M z
 omega
theorem q4t (x : Int) : ∀ l : List Int, (insI x l).Perm (x :: l)
 | [] => .rfl
 | y :: r => by
  unfold insI
  split
  ·exact .rfl
  ·exact (List.Perm.cons y (q4t x r)).trans (List.Perm.swap x y r)
theorem q4K : ∀ l : List Int, (q3m l).Perm l
 | [] => .rfl
 | x :: r => (q4t x (q3m r)).trans (List.Perm.cons x (q4K r))
theorem q9P (x : Int) : ∀ {l : List Int}, l.Pairwise (· <= ·) -> (insI x l).Pairwise (· <= ·)
 | [], _ => List.pairwise_singleton _ _
 | y :: r, h => by
  obtain ⟨h1, h2⟩ := List.pairwise_cons.mp h
  unfold insI
  split
  ·rename_i q
   refine List.pairwise_cons.mpr ⟨λ z hz => ?_, h⟩
   rcases List.mem_cons.mp hz with e | e
   ·omega
   ·have := h1 z e
    omega
  ·rename_i q
   refine List.pairwise_cons.mpr ⟨λ z hz => ?_, q9P x h2⟩
   rcases List.mem_cons.mp ((q4t x r).mem_iff.mp hz) with e | e
   ·omega
   ·exact h1 z e
theorem q7e : ∀ l : List Int, (q3m l).Pairwise (· <= ·)
 | [] => .nil
 | x :: r => q9P x (q7e r)
theorem z1I : ∀ {a b : List Int}, a.Perm b -> a.Pairwise (· <= ·) -> b.Pairwise (· <= ·) -> a = b
 | [], b, p, _, _ => (List.Perm.nil_eq p)
 | x :: a, b, p, ha, hb => by
  cases b with
  | nil => exact absurd p.length_eq (by simp)
  | cons y b =>
   obtain ⟨a1, a2⟩ := List.pairwise_cons.mp ha
   obtain ⟨b1, b2⟩ := List.pairwise_cons.mp hb
   have e : x = y := by
    have q1 := p.mem_iff.mp (List.mem_cons_self (a := x) (l := a))
    have q2 := p.mem_iff.mpr (List.mem_cons_self (a := y) (l := b))
    rcases List.mem_cons.mp q1 with z | z
    ·exact z
    ·rcases List.mem_cons.mp q2 with z2 | z2
     ·exact z2.symm
     ·have := a1 y z2
      have := b1 x z
      omega
   subst e
   rw [z1I (List.Perm.cons_inv p) a2 b2]
theorem z3u : ∀ l re, intD l = some re -> ∃ d c, re = .ok d c := λ l re h => by unfold intD at h; split at h <;> cases h <;> exact ⟨_, _, rfl⟩
theorem z1b : ∀ l re, q9l l = some re -> ∃ d c, re = .ok d c := λ l re h => by unfold q9l at h; split at h <;> cases h <;> exact ⟨_, _, rfl⟩
theorem q9v : ∀ l re, q4P l = some re -> ∃ d c, re = .ok d c := λ l re h => by unfold q4P at h; split at h <;> cases h <;> exact ⟨_, _, rfl⟩
theorem z5r : q2h X (.builtin "len") (biR X lenD) := by
 intro pins s σ H xs us Q I r h
 obtain ⟨l, re, O, W, H0, hb, hd, g, d, c, rfl, p⟩ := h
 unfold lenD at hb
 split at hb
 ·cases hb
  obtain ⟨v, rfl, gv⟩ := g.one
  obtain ⟨a, ys, e1, e2, e3⟩ := gv.lst hd
  exact q2s pins s σ H _ us Q I r ⟨a, ys, by rw [e1], .inl (SqL.of e2), by rw [e3.length]; exact p _ H (Same.refl H) q0D⟩
 ·cases hb
  obtain ⟨v, rfl, gv⟩ := g.one
  obtain ⟨a, ys, e1, e2, e3⟩ := gv.tup hd
  exact q2s pins s σ H _ us Q I r ⟨a, ys, by rw [e1], .inr e2, by rw [e3.length]; exact p _ H (Same.refl H) q0D⟩
 ·cases hb
  obtain ⟨v, rfl, gv⟩ := g.one
  obtain ⟨a, e1, e2⟩ := q1M.mp (gv.all hd)
  exact q2s pins s σ H _ us Q I r ⟨a, _, by rw [e1], .inl e2.sq, by rw [List.length_map]; exact p _ H (Same.refl H) q0D⟩
 ·cases hb
  obtain ⟨v, rfl, gv⟩ := g.one
  obtain ⟨e1, e2⟩ := gv.str hd
  exact q6j pins s σ H _ us Q I r ⟨_, by rw [e1], e2, p _ H (Same.refl H) q0D⟩
 ·cases hb
theorem z5V (hc : X.calm = true) : q2h X (.builtin "min") (biR X minD) := by
 intro pins s σ H xs us Q I r h
 obtain ⟨l, re, O, W, H0, hb, hd, g, d, c, rfl, p⟩ := h
 unfold minD at hb
 split at hb
 ·cases hb
  obtain ⟨v, v', rfl, gv, gv'⟩ := g.two
  exact q8i hc pins s σ H _ us Q I r ⟨_, _, by rw [gv.int hd, gv'.int hd], p _ H (Same.refl H) q0D⟩
 ·split at hb
  ·rename_i n r' hq
   cases hb
   obtain ⟨v, rfl, gv⟩ := g.one
   obtain ⟨a, ys, e1, e2, e3⟩ := gv.lst hd
   have e4 := q5s hq e3
   subst e4
   exact q8U hc pins s σ H _ us Q I r ⟨a, n :: r', by rw [e1], SqL.of e2, by simp, λ M m1 m2 => by rw [z0m m1 m2]; exact p _ H (Same.refl H) q0D⟩
  ·cases hb
 ·cases hb
theorem q5O : bootBuiltins "sorted" = some (.builtin "sorted") := by decide +kernel
theorem q8y : bootBuiltins "set" = some (.type "set") := by decide +kernel
theorem z0E {p' : Pos} {pos' : Pos} (hc : X.calm = true) (hg : Gl X "sorted") (hm : X.mg "sorted" = none) (hg' : Gl X "set") (hm' : X.mg "set" = none)
  (ha : ∀ q, rs = some q -> PA X [e] (dA X.D E δ q)) (hs : q0p e = false) (h : Rs.thn rs z0G = some re) : PE X (.Call (.Name "sorted" p) [.Call (.Name "set" p') [e] [] pos'] [] pos) (dE X.D E δ re) :=
 q2A (r := λ vs H Q => (∃ (a : Addr) (ns : List Int), vs = [.ref a] /\ SqL X.K H a (ns.map V.int) /\ ns.length < 4000 /\ ∀ p, H p = none -> ∃ (p1 : Addr) (ks : List Int), [V.ref p] = [.ref p1] /\ upd H p (setO X.prog X.w p (ns.foldl dk [])) p1 = some (setO X.prog X.w p1 ks) /\ ks.length < 64 /\
   ∀ (q : Addr) (ms : List Int), upd H p (setO X.prog X.w p (ns.foldl dk [])) q = none -> ms.Perm ks -> ms.Pairwise (· <= ·) -> Q (.ref q) (upd (upd H p (setO X.prog X.w p (ns.foldl dk []))) q (.lst (ms.map V.int)))))
  (λ t hA => by
   have q1 := q5Y (p := p') (pos := pos') (q9R hc) hg' hm' q8y hA (by decide) (by decide) (q0s hs) rfl
   have q2 := q5v (p := p) (pos := pos) (q8b hc) hg hm q5O (q2a q1 q4J) (by decide) (by decide) rfl rfl
   exact q2.weak λ σ H Q h => h) ha h λ O W H0 H vs Q l σ hl hd g pp => by
  unfold z0G at hl
  split at hl
  ·split at hl
   ·rename_i ds c ns hq
    split at hl
    ·rename_i hb
     cases hl
     obtain ⟨v, rfl, gv⟩ := g.one
     obtain ⟨a, ys, e1, e2, e3⟩ := gv.lst hd
     have e4 := q5s hq e3
     subst e4
     refine ⟨a, ns, by rw [e1], SqL.of e2, hb.1, λ p1 hp1 => ⟨p1, _, rfl, q1d, hb.2, λ q ms hq1 pm pw => ?_⟩⟩
     have e5 : ms = q3m (ns.foldl dk []) := z1I (pm.trans (q4K _).symm) pw (q7e _)
     subst e5
     have s1 : Same H (upd H p1 (setO X.prog X.w p1 (ns.foldl dk []))) := q0o hp1
     exact pp _ _ (s1.trans (q0o hq1)) (q1F (hd.mono s1) hq1 (q1Q _))
    ·cases hl
   ·cases hl
  ·cases hl
theorem z5W : q2h X (.type "int") (biR X intD) := by
 intro pins s σ H xs us Q I r h
 obtain ⟨l, re, O, W, H0, hb, hd, g, d, c, rfl, p⟩ := h
 unfold intD at hb
 split at hb
 ·cases hb
  obtain ⟨v, rfl, gv⟩ := g.one
  exact q5X pins s σ H _ us Q I r (.inl ⟨_, by rw [gv.int hd], p _ H (Same.refl H) q0D⟩)
 ·cases hb
  obtain ⟨v, rfl, gv⟩ := g.one
  exact q5X pins s σ H _ us Q I r (.inr ⟨_, by rw [gv.bl hd], p _ H (Same.refl H) q0D⟩)
 ·cases hb
theorem z2w : q2h X (.type "list") (biR X q9l) := by
 intro pins s σ H xs us Q I r h
 obtain ⟨l, re, O, W, H0, hb, hd, g, d, c, rfl, p⟩ := h
 unfold q9l at hb
 split at hb
 ·cases hb
  obtain ⟨v, rfl, gv⟩ := g.one
  obtain ⟨a, e1, e2⟩ := q1M.mp (gv.all hd)
  exact q2w pins s σ H _ us Q I r ⟨a, _, by rw [e1], .inl e2.sq, λ q hq => p _ _ (q0o hq) (q1F hd hq (q1Q _))⟩
 ·cases hb
  obtain ⟨v, rfl, gv⟩ := g.one
  obtain ⟨a, ys, e1, e2, e3⟩ := gv.lstC hd
  exact q2w pins s σ H _ us Q I r ⟨a, ys, by rw [e1], .inl (SqL.of e2), λ q hq => p _ _ (q0o hq) (q3S hd hq e3)⟩
 ·cases hb
  obtain ⟨v, rfl, gv⟩ := g.one
  obtain ⟨a, ys, e1, e2, e3⟩ := gv.tupC hd
  exact q2w pins s σ H _ us Q I r ⟨a, ys, by rw [e1], .inr e2, λ q hq => p _ _ (q0o hq) (q3S hd hq e3)⟩
 ·cases hb
theorem z1f : q2h X (.type "tuple") (biR X q4P) := by
 intro pins s σ H xs us Q I r h
 obtain ⟨l, re, O, W, H0, hb, hd, g, d, c, rfl, p⟩ := h
 unfold q4P at hb
 split at hb
 ·cases hb
  obtain ⟨v, rfl, gv⟩ := g.one
  obtain ⟨a, ys, e1, e2, e3⟩ := gv.lstC hd
  exact q3g pins s σ H _ us Q I r ⟨a, ys, by rw [e1], .inl ⟨SqL.of e2, λ q hq => p _ _ (q0o hq) (q7f hd hq e3)⟩⟩
 ·cases hb
  obtain ⟨v, rfl, gv⟩ := g.one
  obtain ⟨a, ys, e1, e2, e3⟩ := gv.tupC hd
  exact q3g pins s σ H _ us Q I r ⟨a, ys, by rw [e1], .inr ⟨e2, p _ _ (Same.refl H) (by rw [← e1]; exact gv)⟩⟩
 ·cases hb
end
noncomputable def tyS : DV -> Option String
 | .non => some "NoneType" | .bl _ => some "bool" | .int _ => some "int" | .str _ => some "str" | .tup _ => some "tuple" | .lst _ => some "list"
 | _ => none
noncomputable def z5Z (T t : String) : Option Bool := if (Value.type T == Value.type t) = true then some true else if PySem.W.kitMeta t = true then (fastBuiltinMro T).map (·.contains (.type t)) else none
theorem q8p : (["NoneType", "bool", "int", "str", "tuple", "list"] : List String).all (λ T => (["int", "bool", "str", "list", "tuple", "dict"] : List String).all λ t => z5Z T t == some (T == t || (T == "bool" && t == "int"))) = true := by decide +kernel
theorem q4y {K : PySem.W.Frag} (T t : String) (h1 : T ∈ ["NoneType", "bool", "int", "str", "tuple", "list"]) (h2 : t ∈ ["int", "bool", "str", "list", "tuple", "dict"]) :
  PySem.W.kitOne K (.type T) (.type t) = some (T == t || (T == "bool" && t == "int")) := by
 have q := List.all_eq_true.mp (List.all_eq_true.mp q8p T h1) t h2
 exact (show z5Z T t = _ from by simpa using q)
section
variable {X : Cx} {E : St -> XK} {δ : List Sv} {e e' : Expr} {pos p p' : Pos} {re : Re} {ra : Option Re}
theorem z4L {pins : List (Addr × Obj)} {σ : St} {H : Hp} {s : Shared} {Q : Value -> Shared -> Prop} {EE : Value -> Shared -> Prop} {d : DV} {v : V} {u : Value} {T t : String} (I : Inv X pins σ H s) (r : Rep X.D H d v) (rv : RelV v u) (hT : tyS d = some T) (ht : t ∈ ["int", "bool", "str", "list", "tuple", "dict"])
  (h : ∀ tk, Q (.bool (T == t || (T == "bool" && t == "int"))) { s with toks := tk }) : wpAny (model X.prog X.w) X.A (call (.builtin "isinstance") [u, .type t]) Q EE s := by
 cases d with
 | non => cases hT; rw [q2x.mp r] at rv; cases rv; exact PySem.W.kia_one PySem.W.kitx_none I.kIn True.intro (q4y _ _ (by simp) ht) (λ z => nomatch z) h
 | bl b => cases hT; rw [q4f.mp r] at rv; cases rv; exact PySem.W.kia_one PySem.W.kitx_bool I.kIn True.intro (q4y _ _ (by simp) ht) (λ z => nomatch z) h
 | int b => cases hT; rw [q0B.mp r] at rv; obtain ⟨tk, rfl⟩ := rv; exact PySem.W.kia_one PySem.W.kitx_int I.kIn True.intro (q4y _ _ (by simp) ht) (λ z => nomatch z) h
 | str b => cases hT; rw [(q2c.mp r).1] at rv; obtain ⟨tk, rfl⟩ := rv; exact PySem.W.kia_one PySem.W.kitx_str I.kIn True.intro (q4y _ _ (by simp) ht) (λ z => nomatch z) h
 | tup ds =>
  cases hT
  obtain ⟨a, xs, e1, e2, e3⟩ := q0S.mp r
  rw [e1] at rv; cases rv
  obtain ⟨its, _, ⟨o, h1, h2, _⟩, _⟩ := I.tuple e2
  exact PySem.W.kia_one PySem.W.kitx_tuple I.kIn ⟨o, h1, h2⟩ (q4y _ _ (by simp) ht) (λ z => nomatch z) h
 | lst ds =>
  cases hT
  obtain ⟨a, xs, e1, e2, e3⟩ := q0L.mp r
  rw [e1] at rv; cases rv
  obtain ⟨_, its, n, _, _, h1⟩ := I.lstM e2
  exact PySem.W.kia_one PySem.W.kitx_list I.kIn ⟨_, h1, rfl⟩ (q4y _ _ (by simp) ht) (λ z => nomatch z) h
 | dct _ _ => cases hT
 | exc _ => cases hT
 | fn _ => cases hT
 | scr _ => cases hT
noncomputable def rIsi (X : Cx) : List V -> Hp -> VK -> Prop := λ xs H Q => ∃ d T t x, xs = [x, .ty t] /\ Rep X.D H d x /\ tyS d = some T /\ t ∈ ["int", "bool", "str", "list", "tuple", "dict"] /\ Q (.bl (T == t || (T == "bool" && t == "int"))) H
theorem z1k : q2h X (.builtin "isinstance") (rIsi X) := by
 intro pins s σ H xs us Q I r h
 obtain ⟨d, T, t, x, rfl, r1, hT, ht, q⟩ := h
 obtain ⟨u, w', rfl, ru, rw'⟩ := z4A r
 cases rw'
 exact z4L I r1 ru hT ht λ tk => ⟨.bl _, H, I.tok tk, rfl, q⟩
noncomputable def q4N : Str -> Option String := λ x => (["int", "bool", "str", "list", "tuple", "dict"] : List String).find? λ t => Str.ofString t == x
theorem q8r {x : Str} {t : String} (h : q4N x = some t) : bootBuiltins x = some (.type t) /\ t ∈ ["int", "bool", "str", "list", "tuple", "dict"] /\ Str.ofString t = x := by
 unfold q4N at h
 have h1 := List.find?_some h
 have h2 := List.mem_of_find?_eq_some h
 have h3 : Str.ofString t = x := by simpa using h1
 refine ⟨?_, h2, h3⟩
 subst h3
 simp only [List.mem_cons, List.not_mem_nil, or_false] at h2
 rcases h2 with rfl | rfl | rfl | rfl | rfl | rfl
 ·exact boot_int
 ·exact boot_bool
 ·exact boot_str
 ·exact boot_list
 ·exact boot_tuple
 ·exact boot_dict
noncomputable def q8Y : String -> List Str
 | "NoneType" => ["NoneType"] | "bool" => ["bool", "int"] | "int" => ["int"] | "str" => ["str"] | "tuple" => ["tuple"] | "list" => ["list"]
 | _ => []
theorem q6O : (["NoneType", "bool", "int", "str", "tuple", "list"] : List String).all (λ T => (["int", "bool", "str", "list", "tuple", "dict"] : List String).all λ t => (q8Y T).contains (Str.ofString t) == (T == t || (T == "bool" && t == "int"))) = true := by decide +kernel
theorem z3X {d : DV} {x : Str} {t T : String} (h : q4N x = some t) (hT : tyS d = some T) : (tyOf d).contains x = (T == t || (T == "bool" && t == "int")) := by
 obtain ⟨_, h2, h3⟩ := q8r h
 subst h3
 have key : ∀ T ∈ (["NoneType", "bool", "int", "str", "tuple", "list"] : List String), (q8Y T).contains (Str.ofString t) = (T == t || (T == "bool" && t == "int")) := λ T hT => by
  have q := List.all_eq_true.mp (List.all_eq_true.mp q6O T hT) t h2
  simpa using q
 cases d <;> cases hT
 ·exact key "NoneType" (by simp)
 ·exact key "bool" (by simp)
 ·exact key "int" (by simp)
 ·exact key "str" (by simp)
 ·exact key "tuple" (by simp)
 ·exact key "list" (by simp)
theorem z2R {G : Gs} {x : Str} {t : String} (ht : q4N x = some t) (hg : Gl X "isinstance") (hm : X.mg "isinstance" = none) (hgx : Gl X x) (hmx : X.mg x = none) (hnx : x ≠ "__name__") (hdx : (x == ("__debug__" : Str)) = false)
  (ha : ∀ q, ra = some q -> PE X e (dE X.D E δ q)) (hs : q0p e = false) (h : (Re.thn ra λ y _ => (isiD G y [x]).map λ k => .ok (.bl k) .strong) = some re) : PE X (.Call (.Name "isinstance" p) [e, .Name x p'] [] pos) (dE X.D E δ re) := by
 obtain ⟨b1, b2, b3⟩ := q8r ht
 have T : PE X (.Name x p') (tC (.ty t)) := z2u hgx hmx b1 rfl hnx hdx
 have C := λ ta (hA : PE X e ta) => q5v (p := p) (pos := pos) z1k hg hm boot_isinstance (q2a hA (q2a T q4J) (q0s hs)) (by decide) (by decide) (q0s hs)
 cases hra : ra with
 | none => rw [hra] at h; cases h
 | some q =>
  rw [hra] at h
  have A := ha q hra
  cases q with
  | ex c => cases h; exact (C _ A).weak λ σ H Q ⟨O, W, R, p⟩ => ⟨O, W, R, p⟩
  | ok d cl =>
   obtain ⟨k, e1, e2⟩ := Option.map_eq_some_iff.mp (show ((isiD G d [x]).map λ k => Re.ok (.bl k) .strong) = some re from h)
   cases e2
   have key : ∃ T, tyS d = some T /\ k = (tyOf d).contains x := by
    unfold isiD at e1
    have px : q2u.contains x = true := by
     rw [← b3]
     simp only [List.mem_cons, List.not_mem_nil, or_false] at b2
     rcases b2 with rfl | rfl | rfl | rfl | rfl | rfl <;> decide +kernel
    cases d <;> first
     | (simp only [px, if_true] at e1; cases e1; exact ⟨_, rfl, rfl⟩)
     | cases e1
   obtain ⟨T, hT, hk⟩ := key
   exact (C _ A).weak λ σ H Q ⟨O, W, R, p⟩ => ⟨O, W, R, λ v H1 s1 g1 => ⟨d, T, t, v, rfl, g1.all (R.hid.mono s1), hT, b2, by rw [← z3X ht hT, ← hk]; exact p _ H1 s1 q4p⟩⟩
end
end L2
end
section
namespace L2
open PySem PySem.Spec PyProof.Rows
theorem q4H : ∀ {acc : List Value} {f : Nat -> Int}, (∀ j v, acc[j]? = some v -> ∃ t, v = Value.int (f j) t) -> Vals ((List.range acc.length).map λ (i : Nat) => V.int (f i)) acc
 | [], _, _ => .nil
 | x :: r, f, h => by
  rw [List.length_cons, List.range_succ_eq_map, List.map_cons, List.map_map]
  exact .cons (h 0 x rfl) (q4H (f := λ i => f (i + 1)) λ j v e => h (j + 1) v (by simpa using e))
section
variable {X : Cx} {E : St -> XK} {δ : List Sv} {e : Expr} {pos p : Pos} {re : Re} {rs : Option Rs}
theorem z2Z {ta : TA} {p2 pos2 : Pos} (hc : X.calm = true) (hg2 : Gl X "list") (hm2 : X.mg "list" = none) (hg : Gl X "range") (hm : X.mg "range" = none) (ha : PA X [e] ta) (hs : starEach [e] X.env = [(false, eval e X.env)]) :
  PE X (.Call (.Name "list" p) [.Call (.Name "range" p2) [e] [] pos2] [] pos) (tCB (λ vs H Q => ∃ j : Int, vs = [.int j] /\ -(2 ^ 62) <= j /\ j <= 1000000 /\ ∀ q, H q = none -> Q (.ref q) (upd H q (.lst ((List.range j.toNat).map λ (i : Nat) => V.int (0 + i))))) ta) := by
 intro pins s σ H R I h
 refine Call_ (q3b I hg2 hm2 boot_list (PyProof.Rows.callWith_type1 ?_ rfl rfl))
 show wpAny _ _ (spliced ((false, eval (.Call (.Name "range" p2) [e] [] pos2) X.env) :: backTo pos (starEach [] X.env))) _ _ s
 refine Calls.spliced_cons (Call_ (q3b I hg hm boot_range (PyProof.Rows.callWith_type1 (thn (ha pos2 pins s σ H _ I h) λ us s1 ⟨vs, H1, I1, r1, q1⟩ => ?_) hs rfl)))
 obtain ⟨j, e, q1, q2, q⟩ := q1
 subst e
 cases r1 with
 | cons r rr =>
  cases rr
  obtain ⟨t, rfl⟩ := r
  have I2 : Inv X pins σ H1 { s1 with heap := s1.heap.push { cls := .type "range", data := .fields #[.int 0 s1.toks, .int j t, .int 1 (s1.toks + 1)] }, toks := s1.toks + 1 + 1 } := I1.kept λ b o e => Heap.get?_push_of_some _ e
  have hz : Builtin.Range.rangeSize 0 j 1 = (j.toNat : Int) := by rw [rangeSize_one]; split <;> omega
  refine call_range_1 (Calls.spliced_nil (call_list_range (n := j.toNat) (I1.ok.hd hc) (IsRange.new ..) (small_one (by omega) (by omega) q1 (by omega)) hz (by omega) λ h' tk acc c' kp e ⟨z1, z2⟩ => ?_))
  have vv : Vals ((List.range j.toNat).map λ (i : Nat) => V.int (0 + i)) acc.toList := by
   have := q4H (acc := acc.toList) (f := λ i => 0 + (i : Int)) λ k v ek => by
    obtain ⟨t', e'⟩ := z2 k v (by simpa using ek)
    exact ⟨t', by rw [e', Int.mul_one]⟩
   rwa [show acc.toList.length = j.toNat from by simpa using z1] at this
  refine ⟨.ref _, _, I2.laid (t' := tk) kp (Nat.le_refl _) (show q1V X.prog X.w _ h' _ (.lst ((List.range j.toNat).map λ (i : Nat) => V.int (0 + i))) from ⟨?_, acc.toList, c', vv, e⟩), rfl, q _ (I2.hok.fresh (Nat.le_refl _))⟩
  rw [List.length_map, List.length_range]; show j.toNat <= sizeLine; unfold sizeLine; omega
theorem z0D {p2 pos2 : Pos} (hc : X.calm = true) (hg2 : Gl X "list") (hm2 : X.mg "list" = none) (hg : Gl X "range") (hm : X.mg "range" = none)
  (ha : ∀ q, rs = some q -> PA X [e] (dA X.D E δ q)) (hs : q0p e = false) (h : Rs.thn rs z0d = some re) : PE X (.Call (.Name "list" p) [.Call (.Name "range" p2) [e] [] pos2] [] pos) (dE X.D E δ re) :=
 q2A (λ t hA => z2Z hc hg2 hm2 hg hm hA (q0s hs)) ha h λ O W H0 H vs Q l σ hl hd g pp => by
  unfold z0d at hl
  split at hl
  ·rename_i j c
   split at hl
   ·rename_i m
    cases hl
    rw [Bool.and_eq_true, decide_eq_true_eq, decide_eq_true_eq] at m
    obtain ⟨v, rfl, gv⟩ := g.one
    refine ⟨j, by rw [gv.int hd], m.1, by have := m.2; unfold mostLen at this; omega, λ q hq => pp _ _ (q0o hq) (q1F hd hq ?_)⟩
    have := q1Q (D := X.D) (H := L2.wo (O ++ W) H) ((List.range j.toNat).map λ (i : Nat) => (0 + i : Int))
    rw [List.map_map, List.map_map] at this
    exact this
   ·cases hl
  ·cases hl
end
end L2
end
section
namespace L2
open PySem PySem.Spec PyProof.Rows
structure Wk (D : Dm) (J : It) (ds : List DV) (Oc Oi : List Addr) (H1 : Hp) : Prop where
 go : ∀ i H, Same (L2.wo Oc H1) (L2.wo Oc H) -> i < ds.length -> J.go i H
 same : ∀ i H x H', J.yld i H x H' -> Same H H'
 yld : ∀ i H x H' d O2, Same (L2.wo Oc H1) (L2.wo Oc H) -> Same (L2.wo Oi H1) (L2.wo Oi H) -> J.yld i H x H' -> ds[i]? = some d -> (∀ a ∈ O2, H a ≠ none /\ (a ∈ Oi \/ H1 a = none)) -> Rep D (L2.wo O2 H') d x
 stop : ∀ H, Same (L2.wo Oc H1) (L2.wo Oc H) -> J.stop ds.length H
noncomputable def hidW (O W : List Addr) : Cl -> List Addr
 | .top => O
 | .weak => O
 | _ => O ++ W
noncomputable def z6x (D : Dm) (E : St -> XK) (σ : St) (O W : List Addr) (H : Hp) (R : It -> Hp -> Prop) : Ri -> Prop
 | .ok ds c => ∀ J H', Same H H' -> Wk D J ds (hidW O W c) (q1r O W c) H' -> R J H'
 | .ex c => ∀ H' C, D.mg c = some C -> Same H H' -> E σ C none H'
noncomputable def dI (D : Dm) (E : St -> XK) (δ : List Sv) (r : Ri) : TI := λ σ H R => ∃ O W, RSt D H σ δ O W /\ z6x D E σ O W H R r
theorem PI.weak {X : Cx} {tg iter : Expr} {t t' : TI} (h : PI X tg iter t) (k : ∀ σ H R, t' σ H R -> t σ H R) : PI X tg iter t' := λ pins s σ H R I q => h pins s σ H R I (k σ H R q)
theorem q8T {O O2 : List Addr} {H1 H : Hp} (s : Same (L2.wo O H1) (L2.wo O H)) (h : ∀ a ∈ O2, H a ≠ none /\ (a ∈ O \/ H1 a = none)) : Same (L2.wo O H1) (L2.wo O2 H) := λ b o e => by
 have q := s b o e
 obtain ⟨hb, e⟩ := q1e e
 obtain ⟨_, q⟩ := q1e q
 rw [q0A λ z => ?_]
 ·exact q
 ·rcases (h b z).2 with w | w
  ·exact hb w
  ·rw [w] at e; cases e
theorem Wk.list {D : Dm} {ds : List DV} {Oc Oi : List Addr} {H1 : Hp} {a : Addr} {xs : List V} (h : SqL D.K (L2.wo Oc H1) a xs) (r : RepL D (L2.wo Oi H1) ds xs) : Wk D (Itl D.K a) ds Oc Oi H1 where
 go := λ i H s hi => ⟨xs, xs[i]'(by rw [r.length]; exact hi), q1o.seq (s.seq h), List.getElem?_eq_getElem _⟩
 same := λ i H x H' y => by rw [y.1]; exact Same.refl _
 yld := λ i H x H' d O2 s s' y e ho => by
  obtain ⟨e1, y⟩ := y
  subst e1
  obtain ⟨v, q1, q2⟩ := r.get e
  have := y xs (q1o.seq (s.seq h))
  rw [q1] at this; cases this
  exact q2.mono (q8T s' ho)
 stop := λ H s => ⟨xs, q1o.seq (s.seq h), by rw [r.length]; exact Nat.le_refl _⟩
theorem Wk.tup {D : Dm} {ds : List DV} {Oc Oi : List Addr} {H1 : Hp} {a : Addr} {xs : List V} (h : SqT D.K (L2.wo Oc H1) a xs) (r : RepL D (L2.wo Oi H1) ds xs) : Wk D (Itt D.K a) ds Oc Oi H1 where
 go := λ i H s hi => ⟨xs, xs[i]'(by rw [r.length]; exact hi), q1o.tseq (s.tseq h), List.getElem?_eq_getElem _⟩
 same := λ i H x H' y => by rw [y.1]; exact Same.refl _
 yld := λ i H x H' d O2 s s' y e ho => by
  obtain ⟨e1, y⟩ := y
  subst e1
  obtain ⟨v, q1, q2⟩ := r.get e
  have := y xs (q1o.tseq (s.tseq h))
  rw [q1] at this; cases this
  exact q2.mono (q8T s' ho)
 stop := λ H s => ⟨xs, q1o.tseq (s.tseq h), by rw [r.length]; exact Nat.le_refl _⟩
theorem q2U (lo : Int) (n : Nat) : (upTo lo n).length = n := by unfold upTo; rw [List.length_map, List.length_range]
theorem z1j {lo : Int} {n i : Nat} {d : DV} (h : (upTo lo n)[i]? = some d) : i < n /\ d = .int (lo + i) := by
 have hl : i < n := by have := (List.getElem?_eq_some_iff.mp h).1; rw [q2U] at this; exact this
 unfold upTo at h
 rw [List.getElem?_map, List.getElem?_range hl] at h
 cases h
 exact ⟨hl, rfl⟩
theorem Wk.range {D : Dm} {Oc Oi : List Addr} {H1 : Hp} (lo : Int) (n : Nat) : Wk D (Itr lo n) (upTo lo n) Oc Oi H1 where
 go := λ i H s hi => by rw [q2U] at hi; exact hi
 same := λ i H x H' y => by rw [y.1]; exact Same.refl _
 yld := λ i H x H' d O2 s s' y e ho => by
  obtain ⟨e1, y⟩ := y
  subst e1
  obtain ⟨_, e2⟩ := z1j e
  subst e2
  exact q0B.mpr y
 stop := λ H s => by rw [q2U]; exact Nat.le_refl _
theorem q2f (hi : Int) (n : Nat) : (q4M hi n).length = n := by unfold q4M; rw [List.length_map, List.length_range]
theorem q8a {hi : Int} {n i : Nat} {d : DV} (h : (q4M hi n)[i]? = some d) : i < n /\ d = .int (hi - i) := by
 have hl : i < n := by have := (List.getElem?_eq_some_iff.mp h).1; rw [q2f] at this; exact this
 unfold q4M at h
 rw [List.getElem?_map, List.getElem?_range hl] at h
 cases h
 exact ⟨hl, rfl⟩
theorem Wk.down {D : Dm} {Oc Oi : List Addr} {H1 : Hp} (hi : Int) (n : Nat) : Wk D (Itd hi n) (q4M hi n) Oc Oi H1 where
 go := λ i H s h => by rw [q2f] at h; exact h
 same := λ i H x H' y => by rw [y.1]; exact Same.refl _
 yld := λ i H x H' d O2 s s' y e ho => by
  obtain ⟨e1, y⟩ := y
  subst e1
  obtain ⟨_, e2⟩ := q8a e
  subst e2
  exact q0B.mpr y
 stop := λ H s => by rw [q2f]; exact Nat.le_refl _
section
variable {X : Cx} {E : St -> XK} {δ : List Sv} {tg e e' : Expr} {es : List Expr} {pos p : Pos} {ra rb : Option Re} {rs : Option Rs} {ri : Ri}
theorem Got.walkL {D : Dm} {O W : List Addr} {H0 H : Hp} {ds : List DV} {c : Cl} {v : V} (g : Got D O W H0 H (.lst ds) c v) (hd : Hid O W H0 H) : ∃ a xs, v = .ref a /\ SqL D.K (L2.wo (hidW O W c) H) a xs /\ RepL D (L2.wo (q1r O W c) H) ds xs := by
 cases c with
 | weak => obtain ⟨a, xs, e1, e2, e3⟩ := q0L.mp g; exact ⟨a, xs, e1, SqL.of e2, e3⟩
 | top => obtain ⟨a, xs, e1, e0, e2, e3⟩ := g; exact ⟨a, xs, e1, SqL.of e2, e3⟩
 | strong => obtain ⟨a, xs, e1, e2, e3⟩ := q0L.mp g; exact ⟨a, xs, e1, SqL.of e2, e3⟩
 | fresh => obtain ⟨a, xs, e1, e2, e3⟩ := q0L.mp (g.strong hd); exact ⟨a, xs, e1, SqL.of e2, e3⟩
 | ft => obtain ⟨a, xs, e1, e2, e3⟩ := q0L.mp (g.ft hd); exact ⟨a, xs, e1, SqL.of e2, e3⟩
theorem Got.walkT {D : Dm} {O W : List Addr} {H0 H : Hp} {ds : List DV} {c : Cl} {v : V} (g : Got D O W H0 H (.tup ds) c v) (hd : Hid O W H0 H) : ∃ a xs, v = .ref a /\ SqT D.K (L2.wo (hidW O W c) H) a xs /\ RepL D (L2.wo (q1r O W c) H) ds xs := by
 cases c with
 | weak => exact q0S.mp g
 | top =>
  obtain ⟨a, xs, e1, e2, e3⟩ := q0S.mp (show Rep D (L2.wo (O ++ W) H) (.tup ds) v from g)
  exact ⟨a, xs, e1, (q0Q q6e).tseq e2, e3⟩
 | strong => exact q0S.mp g
 | fresh => obtain ⟨_, _, _, _, q, _⟩ := g; cases q
 | ft => exact q0S.mp (g.ft hd)
theorem Got.walkS {D : Dm} {O W : List Addr} {H0 H : Hp} {ns : List Int} {c : Cl} {v : V} (g : Got D O W H0 H (.scr ns) c v) (hd : Hid O W H0 H) : ∃ a, v = .ref a /\ SqL D.K (L2.wo (hidW O W c) H) a (ns.map V.int) := by
 cases c with
 | weak => obtain ⟨a, e1, e2⟩ := q1M.mp g; exact ⟨a, e1, e2.sq⟩
 | top => obtain ⟨a, e1, e2⟩ := q1M.mp (show Rep D (L2.wo (O ++ W) H) (.scr ns) v from g); exact ⟨a, e1, (q0Q q6e).seq e2.sq⟩
 | strong => obtain ⟨a, e1, e2⟩ := q1M.mp g; exact ⟨a, e1, e2.sq⟩
 | fresh => obtain ⟨_, _, _, _, q, _⟩ := g; cases q
 | ft => obtain ⟨a, e1, e2⟩ := q1M.mp (g.ft hd); exact ⟨a, e1, e2.sq⟩
theorem q7z (ha : ∀ q, ra = some q -> PE X e (dE X.D E δ q)) (h : q1b ra = some ri) : PI X tg e (dI X.D E δ ri) := by
 cases hra : ra with
 | none => rw [hra] at h; cases h
 | some q =>
  rw [hra] at h
  have A := ha q hra
  cases q with
  | ex c => cases h; exact (q6I A).weak λ σ H R' ⟨O, W, R, p⟩ => ⟨O, W, R, p⟩
  | ok d c =>
   obtain ⟨ds, e1, e2⟩ := Option.map_eq_some_iff.mp (show ((seqD d).map λ ds => Ri.ok ds c) = some ri from h)
   cases e2
   unfold seqD at e1
   split at e1
   ·cases e1
    exact (q6I A).weak λ σ H R' ⟨O, W, R, p⟩ => ⟨O, W, R, λ v H1 s1 g1 => by
     obtain ⟨a, e1, e2⟩ := g1.walkS (R.hid.mono s1)
     exact ⟨a, e1, ⟨_, q1o.seq e2⟩, p _ H1 s1 (.list e2 (q1Q _))⟩⟩
   ·cases e1
    exact (q6I A).weak λ σ H R' ⟨O, W, R, p⟩ => ⟨O, W, R, λ v H1 s1 g1 => by
     obtain ⟨a, xs, e1, e2, e3⟩ := g1.walkL (R.hid.mono s1)
     exact ⟨a, e1, ⟨xs, q1o.seq e2⟩, p _ H1 s1 (.list e2 e3)⟩⟩
   ·cases e1
    exact (z5n A).weak λ σ H R' ⟨O, W, R, p⟩ => ⟨O, W, R, λ v H1 s1 g1 => by
     obtain ⟨a, xs, e1, e2, e3⟩ := g1.walkT (R.hid.mono s1)
     exact ⟨a, e1, ⟨xs, q1o.tseq e2⟩, p _ H1 s1 (.tup e2 e3)⟩⟩
   ·cases e1
theorem q1U {i : Int} (h : q1s i = true) : -(2 ^ 62) <= i /\ i < 2 ^ 62 := by
 unfold q1s at h
 simpa [Bool.and_eq_true] using h
theorem q5y {o : Option (List DV)} {ri : Ri} (h : q1b (o.map λ ds => Re.ok (.lst ds) .fresh) = some ri) : ∃ ds, o = some ds /\ ri = .ok ds .fresh := by
 cases o with
 | none => cases h
 | some ds => cases h; exact ⟨ds, rfl, rfl⟩
theorem q7D (hg : Gl X "range") (hm : X.mg "range" = none) (ha : ∀ q, rs = some q -> PA X [e] (dA X.D E δ q)) (hs : q0p e = false) (h : q1b (Rs.thn rs λ l => (rngD l).map λ ds => Re.ok (.lst ds) .fresh) = some ri) (hl : ∀ l, rs = some (.ok l) -> l.length = 1) :
  PI X tg (.Call (.Name "range" p) [e] [] pos) (dI X.D E δ ri) := by
 have C := λ t (hA : PA X [e] t) => q9G (tg := tg) (p := p) (pos := pos) hg hm hA (q0s hs)
 cases hrs : rs with
 | none => rw [hrs] at h; cases h
 | some q =>
  rw [hrs] at h
  have A := ha q hrs
  cases q with
  | ex c => cases h; exact (C _ A).weak λ σ H R' ⟨O, W, R, p⟩ => ⟨O, W, R, p⟩
  | ok l =>
   have l1 := hl l hrs
   obtain ⟨ds, e1, e2⟩ := q5y (show q1b ((rngD l).map λ ds => Re.ok (.lst ds) .fresh) = some ri from h)
   cases e2
   unfold rngD at e1
   split at e1
   ·rename_i j c
    split at e1
    ·rename_i m
     cases e1
     rw [Bool.and_eq_true] at m
     have q := q1U m.1
     exact (C _ A).weak λ σ H R' ⟨O, W, R, p⟩ => ⟨O, W, R, λ vs H1 s1 g1 => by
      obtain ⟨v, rfl, gv⟩ := g1.one
      exact ⟨j, by rw [gv.int (R.hid.mono s1)], q.1, q.2, p _ H1 s1 (.range _ _)⟩⟩
    ·cases e1
   ·cases l1
   ·cases l1
   ·cases e1
theorem q7G (hg : Gl X "range") (hm : X.mg "range" = none) (ha : ∀ q, rs = some q -> PA X [e, e'] (dA X.D E δ q)) (hs : q0p e = false) (hs' : q0p e' = false) (h : q1b (Rs.thn rs λ l => (rngD l).map λ ds => Re.ok (.lst ds) .fresh) = some ri) (hl : ∀ l, rs = some (.ok l) -> l.length = 2) :
  PI X tg (.Call (.Name "range" p) [e, e'] [] pos) (dI X.D E δ ri) := by
 have C := λ t (hA : PA X [e, e'] t) => q8I (tg := tg) (p := p) (pos := pos) hg hm hA (by rw [q0s hs, q0s hs']; rfl) (q0s hs')
 cases hrs : rs with
 | none => rw [hrs] at h; cases h
 | some q =>
  rw [hrs] at h
  have A := ha q hrs
  cases q with
  | ex c => cases h; exact (C _ A).weak λ σ H R' ⟨O, W, R, p⟩ => ⟨O, W, R, p⟩
  | ok l =>
   have l1 := hl l hrs
   obtain ⟨ds, e1, e2⟩ := q5y (show q1b ((rngD l).map λ ds => Re.ok (.lst ds) .fresh) = some ri from h)
   cases e2
   unfold rngD at e1
   split at e1
   ·cases l1
   ·rename_i i c j c'
    split at e1
    ·rename_i m
     cases e1
     rw [Bool.and_eq_true, Bool.and_eq_true] at m
     have q := q1U m.1.1
     have q' := q1U m.1.2
     exact (C _ A).weak λ σ H R' ⟨O, W, R, p⟩ => ⟨O, W, R, λ vs H1 s1 g1 => by
      obtain ⟨v, v', rfl, gv, gv'⟩ := g1.two
      exact ⟨i, j, by rw [gv.int (R.hid.mono s1), gv'.int (R.hid.mono s1)], ⟨q.1, q.2, q'.1, q'.2⟩, p _ H1 s1 (.range _ _)⟩⟩
    ·cases e1
   ·cases l1
   ·cases e1
theorem q8e {e'' : Expr} (hg : Gl X "range") (hm : X.mg "range" = none) (ha : ∀ q, rs = some q -> PA X [e, e', e''] (dA X.D E δ q)) (hs : q0p e = false) (hs' : q0p e' = false) (hs'' : q0p e'' = false) (h : q1b (Rs.thn rs λ l => (rngD l).map λ ds => Re.ok (.lst ds) .fresh) = some ri) (hl : ∀ l, rs = some (.ok l) -> l.length = 3) :
  PI X tg (.Call (.Name "range" p) [e, e', e''] [] pos) (dI X.D E δ ri) := by
 have C := λ t (hA : PA X [e, e', e''] t) => q9f (tg := tg) (p := p) (pos := pos) hg hm hA (by rw [q0s hs, q0s hs', q0s hs'']; rfl) (by rw [q0s hs', q0s hs'']; rfl)
 cases hrs : rs with
 | none => rw [hrs] at h; cases h
 | some q =>
  rw [hrs] at h
  have A := ha q hrs
  cases q with
  | ex c => cases h; exact (C _ A).weak λ σ H R' ⟨O, W, R, p⟩ => ⟨O, W, R, p⟩
  | ok l =>
   have l1 := hl l hrs
   obtain ⟨ds, e1, e2⟩ := q5y (show q1b ((rngD l).map λ ds => Re.ok (.lst ds) .fresh) = some ri from h)
   cases e2
   unfold rngD at e1
   split at e1
   ·cases l1
   ·cases l1
   ·rename_i i c j c' k c''
    split at e1
    ·rename_i m
     cases e1
     rw [Bool.and_eq_true, Bool.and_eq_true, Bool.and_eq_true, decide_eq_true_eq, decide_eq_true_eq] at m
     have q := q1U m.1.1.1
     have q' := q1U m.1.1.2
     have k1 := m.2
     subst k1
     exact (C _ A).weak λ σ H R' ⟨O, W, R, p⟩ => ⟨O, W, R, λ vs H1 s1 g1 => by
      obtain ⟨v, v', v'', rfl, gv, gv', gv''⟩ := g1.three
      exact ⟨i, j, by rw [gv.int (R.hid.mono s1), gv'.int (R.hid.mono s1), gv''.int (R.hid.mono s1)], ⟨q.1, q.2, q'.1, q'.2⟩, p _ H1 s1 (.down _ _)⟩⟩
    ·cases e1
   ·cases e1
end
noncomputable def q6Y : List Nat -> TGs
 | [] => gNil
 | i :: is => z6a (q8D i) (q6Y is)
noncomputable def gT (K : PySem.W.Frag) : Tg -> TG
 | .one i => q8D i
 | .many is => gTup K is.length (q6Y is)
theorem RSt.setVal {D : Dm} {H : Hp} {σ : St} {δ : List Sv} {O W : List Addr} {v : V} {d : DV} (R : RSt D H σ δ O W) (r : Rep D (L2.wo (O ++ W) H) d v) (i : Nat) : RSt D H (σ.set i (some v)) (δ.set i (.val d)) O W where
 val := λ j d' h => by
  by_cases hj : j = i
  ·subst hj
   have hl : j < δ.length := by
    have := (List.getElem?_eq_some_iff.mp h).1
    rw [List.length_set] at this; exact this
   rw [List.getElem?_set_self hl] at h
   cases h
   exact ⟨v, List.getElem?_set_self (by rw [R.len]; exact hl), r⟩
  ·rw [List.getElem?_set_ne (Ne.symm hj)] at h ⊢
   exact R.val j d' h
 own := λ j ds' h => by
  by_cases hj : j = i
  ·subst hj
   have hl : j < δ.length := by
    have := (List.getElem?_eq_some_iff.mp h).1
    rw [List.length_set] at this; exact this
   rw [List.getElem?_set_self hl] at h
   cases h
  ·rw [List.getElem?_set_ne (Ne.symm hj)] at h ⊢
   exact R.own j ds' h
 inj := λ j k a d1 d2 h1 h2 e1 e2 => by
  have ne : ∀ {j : Nat} {d1 : DV}, (δ.set i (.val d))[j]? = some (.own d1) -> j ≠ i := λ {j d1} h1 z => by
   subst z
   have hl : j < δ.length := by
    have := (List.getElem?_eq_some_iff.mp h1).1
    rw [List.length_set] at this; exact this
   rw [List.getElem?_set_self hl] at h1
   cases h1
  have n1 := ne h1
  have n2 := ne h2
  rw [List.getElem?_set_ne (Ne.symm n1)] at h1 e1
  rw [List.getElem?_set_ne (Ne.symm n2)] at h2 e2
  exact R.inj j k a d1 d2 h1 h2 e1 e2
 ot := λ j d' h => by
  have ne : ∀ {j : Nat} {s : Sv}, (∀ d, s ≠ .val d) -> (δ.set i (.val d))[j]? = some s -> j ≠ i := λ {j s} hs h1 z => by
   subst z
   have hl : j < δ.length := by
    have := (List.getElem?_eq_some_iff.mp h1).1
    rw [List.length_set] at this; exact this
   rw [List.getElem?_set_self hl] at h1
   cases h1
   exact hs _ rfl
  have nj := ne (by intro d z; cases z) h
  rw [List.getElem?_set_ne (Ne.symm nj)] at h ⊢
  obtain ⟨⟨t, ts, p, xs, ds, es, e0, e1, e2, e3, e4, e5, e6, e7⟩, u⟩ := R.ot j d' h
  refine ⟨⟨t, ts, p, xs, ds, es, e0, e1, e2, e3, e4, e5, e6, λ k d2 q => ?_⟩, λ k d2 q => ?_⟩
  ·have nk := ne (by intro d z; cases z) q
   rw [List.getElem?_set_ne (Ne.symm nk)] at q ⊢
   exact e7 k d2 q
  ·have nk := ne (by intro d z; cases z) q
   rw [List.getElem?_set_ne (Ne.symm nk)] at q
   exact u k d2 q
 len := by rw [List.length_set, List.length_set]; exact R.len
 hid := R.hid
theorem q5Q {D : Dm} {H : Hp} {O W : List Addr} {Q : St -> Hp -> Prop} : ∀ {is : List Nat} {ds : List DV} {xs : List V} {σ : St} {δ δ' : List Sv}, RSt D H σ δ O W -> RepL D (L2.wo (O ++ W) H) ds xs -> q4A δ is ds = some δ' -> (∀ σ', RSt D H σ' δ' O W -> Q σ' H) -> q6Y is xs σ H Q
 | [], [], xs, σ, δ, δ', R, r, h, q => by cases h; exact ⟨q0C.mp r, q σ R⟩
 | i :: is, d :: ds, xs, σ, δ, δ', R, r, h, q => by
  obtain ⟨v, vs, e1, e2, e3⟩ := q0m.mp r
  exact ⟨v, vs, e1, q5Q (R.setVal e2 i) e3 h q⟩
 | [], _ :: _, _, _, _, _, _, _, h, _ => by cases h
 | _ :: _, [], _, _, _, _, _, _, h, _ => by cases h
theorem q1X : ∀ {is : List Nat} {ds : List DV} {δ δ' : List Sv}, q4A δ is ds = some δ' -> is.length = ds.length /\ δ'.length = δ.length
 | [], [], _, _, h => by cases h; exact ⟨rfl, rfl⟩
 | i :: is, d :: ds, δ, δ', h => by
  obtain ⟨a, b⟩ := q1X (is := is) h
  exact ⟨by rw [List.length_cons, List.length_cons, a], by rw [b, List.length_set]⟩
 | [], _ :: _, _, _, h => by cases h
 | _ :: _, [], _, _, h => by cases h
theorem q6J {D : Dm} {H : Hp} {O W : List Addr} {Q : St -> Hp -> Prop} {tg : Tg} {d : DV} {x : V} {σ : St} {δ δ' : List Sv} (R : RSt D H σ δ O W) (r : Rep D (L2.wo (O ++ W) H) d x) (h : tg.bind d δ = some δ') (q : ∀ σ', RSt D H σ' δ' O W -> Q σ' H) : gT D.K tg x σ H Q := by
 cases tg with
 | one i => cases h; exact q _ (R.setVal r i)
 | many is =>
  unfold Tg.bind at h
  dsimp only at h
  split at h
  ·rename_i ds
   obtain ⟨a, xs, e1, e2, e3⟩ := q0S.mp r
   exact ⟨a, xs, e1, q1o.tseq e2, by rw [e3.length, (q1X h).1], q5Q R e3 h q⟩
  ·cases h
theorem RSt.less {D : Dm} {H : Hp} {σ : St} {δ δ' : List Sv} {O W : List Addr} (R : RSt D H σ δ' O W) (hl : δ.length = δ'.length) (h : ∀ (i : Nat) sv, δ[i]? = some sv -> sv = .no \/ δ'[i]? = some sv) : RSt D H σ δ O W where
 val := λ i d e => by
  rcases h i _ e with z | z
  ·cases z
  ·exact R.val i d z
 own := λ i d e => by
  rcases h i _ e with z | z
  ·cases z
  ·exact R.own i d z
 inj := λ i j a d d' e e' => by
  rcases h i _ e with z | z
  ·cases z
  ·rcases h j _ e' with y | y
   ·cases y
   ·exact R.inj i j a d d' z y
 ot := λ i d e => by
  rcases h i _ e with z | z
  ·cases z
  ·obtain ⟨⟨t, ts, p, xs, ds, es, e0, e1, e2, e3, e4, e5, e6, e7⟩, u⟩ := R.ot i d z
   refine ⟨⟨t, ts, p, xs, ds, es, e0, e1, e2, e3, e4, e5, e6, λ k d2 q => ?_⟩, λ k d2 q => ?_⟩
   ·rcases h k _ q with y | y
    ·cases y
    ·exact e7 k d2 y
   ·rcases h k _ q with y | y
    ·cases y
    ·exact u k d2 y
 len := by rw [hl]; exact R.len
 hid := R.hid
theorem q6M : ∀ {is : List Nat} {ds : List DV} {δ δ' : List Sv}, q4A δ is ds = some δ' -> (∀ i ∈ is, δ[i]? = some .no \/ δ[i]? = none) -> ∀ (i : Nat) sv, δ[i]? = some sv -> sv = .no \/ δ'[i]? = some sv
 | [], [], _, _, h, _, i, sv, e => by cases h; exact .inr e
 | j :: is, d :: ds, δ, δ', h, hn, i, sv, e => by
  by_cases hij : i ∈ j :: is
  ·rcases hn i hij with z | z
   ·rw [z] at e; cases e; exact .inl rfl
   ·rw [z] at e; cases e
  ·have hne : j ≠ i := λ z => hij (by rw [z]; exact List.mem_cons_self)
   have hni : i ∉ is := λ z => hij (List.mem_cons_of_mem _ z)
   have key : ∀ {is : List Nat} {ds : List DV} {δ δ' : List Sv}, q4A δ is ds = some δ' -> i ∉ is -> δ[i]? = some sv -> δ'[i]? = some sv := by
    intro is
    induction is with
    | nil => intro ds δ δ' h _ e; cases ds with
     | nil => cases h; exact e
     | cons _ _ => cases h
    | cons k is ih => intro ds δ δ' h hi e; cases ds with
     | nil => cases h
     | cons d ds =>
      refine ih h (λ z => hi (List.mem_cons_of_mem _ z)) ?_
      rw [List.getElem?_set_ne (λ z => hi (by rw [z]; exact List.mem_cons_self))]
      exact e
   exact .inr (key h hij e)
 | [], _ :: _, _, _, h, _, _, _, _ => by cases h
 | _ :: _, [], _, _, h, _, _, _, _ => by cases h
theorem q5N {tg : Tg} {d : DV} {δ δ' : List Sv} (h : tg.bind d δ = some δ') (hn : ∀ i ∈ q2R tg, δ[i]? = some .no \/ δ[i]? = none) : δ.length = δ'.length /\ ∀ (i : Nat) sv, δ[i]? = some sv -> sv = .no \/ δ'[i]? = some sv := by
 cases tg with
 | one j =>
  cases h
  refine ⟨(List.length_set ..).symm, λ i sv e => ?_⟩
  by_cases hij : i = j
  ·subst hij
   rcases hn i (by simp [q2R]) with z | z
   ·rw [z] at e; cases e; exact .inl rfl
   ·rw [z] at e; cases e
  ·exact .inr (by rw [List.getElem?_set_ne (Ne.symm hij)]; exact e)
 | many is =>
  unfold Tg.bind at h
  dsimp only at h
  split at h
  ·exact ⟨(q1X h).2.symm, q6M h hn⟩
  ·cases h
theorem RSt.inner {D : Dm} {H : Hp} {σ : St} {δ : List Sv} {O W : List Addr} (R : RSt D H σ δ O W) (fr : List (Option Nat)) (hnd : ∀ (j k i : Nat), fr[j]? = some (some i) -> fr[k]? = some (some i) -> j = k) : RSt D H (L2.inner fr σ) (q0R fr δ) O W := by
 have look : ∀ (j : Nat) sv, (q0R fr δ)[j]? = some sv -> sv ≠ .no -> ∃ i, fr[j]? = some (some i) /\ δ[i]? = some sv := λ j sv h hn => by
  unfold q0R at h
  rw [List.getElem?_map] at h
  cases q : fr[j]? with
  | none => rw [q] at h; cases h
  | some o =>
   rw [q] at h
   cases o with
   | none => cases h; exact absurd rfl hn
   | some i =>
    refine ⟨i, rfl, ?_⟩
    have h' : (δ.getD i .no).plain = sv := by simpa using h
    rw [List.getD_eq_getElem?_getD] at h'
    cases z : δ[i]? with
    | none => rw [z] at h'; exact absurd h'.symm hn
    | some sv' =>
     rw [z] at h'
     cases sv' with
     | ot d => exact absurd h'.symm hn
     | no => exact congrArg some h'
     | val d => exact congrArg some h'
     | own d => exact congrArg some h'
 have sig : ∀ (j i : Nat) (v : V), fr[j]? = some (some i) -> σ[i]? = some (some v) -> (L2.inner fr σ)[j]? = some (some v) := λ j i v q e => by
  unfold L2.inner
  rw [List.getElem?_map, q]
  simp [e]
 have noot : ∀ (j : Nat) d, (q0R fr δ)[j]? ≠ some (.ot d) := λ j d h => by
  unfold q0R at h
  rw [List.getElem?_map] at h
  cases q : fr[j]? with
  | none => rw [q] at h; cases h
  | some o =>
   rw [q] at h
   cases o with
   | none => cases h
   | some i =>
    have h' : (δ.getD i .no).plain = .ot d := by simpa using h
    cases z : δ.getD i .no with
    | ot d2 => rw [z] at h'; cases h'
    | no => rw [z] at h'; cases h'
    | val d2 => rw [z] at h'; cases h'
    | own d2 => rw [z] at h'; cases h'
 refine ⟨λ j d h => ?_, λ j d h => ?_, λ j k a d d' h1 h2 e1 e2 => ?_, λ j d h => absurd h (noot j d), ?_, R.hid⟩
 ·obtain ⟨i, q1, q2⟩ := look j _ h (by intro z; cases z)
  obtain ⟨v, e1, e2⟩ := R.val i d q2
  exact ⟨v, sig j i v q1 e1, e2⟩
 ·obtain ⟨i, q1, q2⟩ := look j _ h (by intro z; cases z)
  obtain ⟨a, xs, ds, e0, e1, e2⟩ := R.own i d q2
  exact ⟨a, xs, ds, e0, sig j i _ q1 e1, e2⟩
 ·obtain ⟨i, q1, q2⟩ := look j _ h1 (by intro z; cases z)
  obtain ⟨i', q1', q2'⟩ := look k _ h2 (by intro z; cases z)
  obtain ⟨b, xs, ds, _, z1, _⟩ := R.own i d q2
  obtain ⟨b', xs', ds', _, z1', _⟩ := R.own i' d' q2'
  have y := sig j i _ q1 z1
  have y' := sig k i' _ q1' z1'
  rw [e1] at y
  rw [e2] at y'
  cases y
  cases y'
  have := R.inj i i' a d d' q2 q2' z1 z1'
  subst this
  exact hnd j k i q1 q1'
 ·unfold L2.inner q0R; rw [List.length_map, List.length_map]
section
variable {X : Cx} {E : St -> XK} {δ : List Sv} {iter elt tgE : Expr} {ifs : List Expr} {pos : Pos} {N' : List Str} {scope : Scope} {fr : List (Option Nat)} {tg : Tg} {ri : Option Ri} {re : Re}
theorem q6T {D : Dm} {J : It} {ds : List DV} {O W : List Addr} {H H1 : Hp} {σ : St} {c : Cl} {g : DV -> Option Rc} {xs : List DV} {tc : TT} {te : TE} {δ0 : List Sv} {Q : VK} (w : Wk D J ds (hidW O W c) (q1r O W c) H1) (hd0 : Hid O W H H) (hc : c ≠ .weak) (R : RSt D H1 σ δ0 O W)
  (hn : ∀ i ∈ q2R tg, δ0[i]? = some .no \/ δ0[i]? = none) (hz : ds.length <= sizeLine) (hx : q0X g ds = some xs) (s1 : Same H H1)
  (step : ∀ d rc, d ∈ ds -> g d = some rc -> ∃ δ', tg.bind d δ0 = some δ' /\ ∀ σ' H2, Same H1 H2 -> RSt D H2 σ' δ' O W -> ∀ K : Bool -> Hp -> Prop, (rc = .skip -> ∀ H3, Same H2 H3 -> K false H3) -> (∀ x, rc = .item x -> ∀ H3, Same H2 H3 -> K true H3) -> tc σ' H2 K)
  (stepE : ∀ d x, d ∈ ds -> g d = some (.item x) -> ∀ δ', tg.bind d δ0 = some δ' -> ∀ σ' H2, Same H1 H2 -> RSt D H2 σ' δ' O W -> ∀ K : VK, (∀ v H3, Same H2 H3 -> Rep D (L2.wo (O ++ W) H3) x v -> K v H3) -> te σ' H2 K)
  (fin : ∀ v H', Same H H' -> Got D O W H H' (.lst xs) .fresh v -> Q v H') :
  z3D J (gT D.K tg) tc te (λ ys H' => ∀ p, H' p = none -> Q (.ref p) (upd H' p (.lst ys))) σ H1 := by
 have ci : q1r O W c = O ++ W := by cases c <;> first | rfl | exact absurd rfl hc
 rw [ci] at w
 refine ⟨λ i n ys σ' H' => n = ds.length - i /\ i <= ds.length /\ ys.length <= i /\ RSt D H' σ' δ0 O W /\ Same H1 H' /\ ∃ done rest, q0X g (ds.drop i) = some rest /\ done ++ rest = xs /\ RepL D (L2.wo (O ++ W) H') done ys,
  ⟨ds.length, rfl, Nat.zero_le _, Nat.zero_le _, R, Same.refl _, [], xs, hx, rfl, q0C.mpr rfl⟩, ?_⟩
 rintro i n ys σ2 H2 ⟨rfl, hi', hy, R2, s2, done, rest, h1, h2, r2⟩
 by_cases hlt : i < ds.length
 ·refine .inr ⟨w.go i H2 s2.wo hlt, Nat.lt_of_le_of_lt hy (Nat.lt_of_lt_of_le hlt hz), λ x' H3 y => ?_⟩
  have y1 := w.same i H2 x' H3 y
  have y3 : Rep D (L2.wo (O ++ W) H3) ds[i] x' := w.yld i H2 x' H3 _ (O ++ W) s2.wo s2.wo y (List.getElem?_eq_getElem hlt) λ a ha => ⟨R2.hid.ot a ha, .inl ha⟩
  rw [List.drop_eq_getElem_cons hlt] at h1
  have hm : ds[i] ∈ ds := List.getElem_mem hlt
  unfold q0X at h1
  split at h1
  ·cases h1
  ·rename_i q
   obtain ⟨δ', b1, b2⟩ := step _ _ hm q
   refine q6J (R2.mono y1) y3 b1 λ σ3 R3 => ?_
   have back := q5N b1 hn
   refine b2 σ3 H3 (s2.trans y1) R3 _ (λ _ H4 s4 => ?_) (λ x z => nomatch z)
   show if false = true then _ else _
   rw [if_neg Bool.false_ne_true]
   exact ⟨ds.length - (i + 1), by omega, rfl, hlt, Nat.le_succ_of_le hy, (R3.less back.1 back.2).mono s4, (s2.trans y1).trans s4, done, rest, h1, h2, r2.mono (y1.trans s4).wo⟩
  ·rename_i x q
   split at h1
   ·cases h1
   ·rename_i rest' q'
    cases h1
    obtain ⟨δ', b1, b2⟩ := step _ _ hm q
    refine q6J (R2.mono y1) y3 b1 λ σ3 R3 => ?_
    have back := q5N b1 hn
    refine b2 σ3 H3 (s2.trans y1) R3 _ (λ z => nomatch z) (λ x' z H4 s4 => ?_)
    cases z
    show if true = true then _ else _
    rw [if_pos rfl]
    refine stepE _ x hm q δ' b1 σ3 H4 ((s2.trans y1).trans s4) (R3.mono s4) _ λ v H5 s5 rv => ?_
    exact ⟨ds.length - (i + 1), by omega, rfl, hlt, by rw [List.length_append, List.length_singleton]; omega, (R3.less back.1 back.2).mono (s4.trans s5), ((s2.trans y1).trans s4).trans s5, done ++ [x], rest', q', by rw [List.append_assoc]; exact h2,
     (r2.mono ((y1.trans s4).trans s5).wo).append (RepL.one rv)⟩
 ·have e : i = ds.length := by omega
  subst e
  rw [List.drop_length] at h1
  cases h1
  rw [List.append_nil] at h2
  subst h2
  have s0 := s1.trans s2
  refine .inl ⟨w.stop H2 s2.wo, λ p hp => fin _ _ (s0.trans (q0o hp)) ?_⟩
  have hd : Hid O W H H2 := hd0.mono s0
  exact q1F hd hp r2
noncomputable abbrev E0s : St -> XK := λ _ _ _ _ => False
theorem PE.any {Y : Cx} {e : Expr} {ι : Sort _} {t : ι -> TE} (h : ∀ k, PE Y e (t k)) : PE Y e (λ σ H Q => ∃ k, t k σ H Q) := λ pins s σ H Q I ⟨k, q⟩ => h k pins s σ H Q I q
theorem PTs.any {Y : Cx} {ι : Sort _} {es : List Expr} {t : ι -> TT} (h : ∀ k, PTs Y es (t k)) : PTs Y es (λ σ H Q => ∃ k, t k σ H Q) := λ pins s σ H Q I ⟨k, q⟩ => h k pins s σ H Q I q
theorem Rc.of_item {r : Option Re} {x : DV} (h : Rc.of r = some (.item x)) : ∃ c, r = some (.ok x c) /\ stro x c = true := by
 unfold Rc.of at h
 split at h
 ·rename_i d c
  split at h
  ·rename_i m; cases h; exact ⟨c, rfl, m⟩
  ·cases h
 ·cases h
theorem Rc.of_skip {r : Option Re} (h : Rc.of r = some .skip) : False := by
 unfold Rc.of at h
 split at h
 ·split at h <;> cases h
 ·cases h
theorem q5W {fr : List (Option Nat)} {δ : List Sv} {i : Nat} (h : fr[i]? = some none) : (q0R fr δ)[i]? = some .no := by
 unfold q0R
 rw [List.getElem?_map, h]; rfl
noncomputable def q1x (X : Cx) (E : St -> XK) (δ : List Sv) (tgE iter : Expr) (ifs : List Expr) (elt : Expr) (scope : Scope) (N' : List Str) (fr : List (Option Nat)) (tg : Tg) (re : Re) : Prop :=
 ∃ wi tc te, PI X tgE iter wi /\ (∀ C cells s₂ H₂ fp, PTs (q0v X scope N' C cells s₂ H₂ fp) ifs tc) /\ (∀ C cells s₂ H₂ fp, PE (q0v X scope N' C cells s₂ H₂ fp) elt te) /\
  ∀ σ H Q, dE X.D E δ re σ H Q -> z3g fr wi (gT X.K tg) tc te σ H Q
theorem q5f {iter : Expr} {env : Env} (hset : q2H iter = false) : ∀ x, foldedSetIterable iter env x = pure x := by cases iter <;> first | (intro _; rfl) | cases hset
theorem q1x.pe (P : q1x X E δ tgE iter ifs elt scope N' fr tg re) (S : CompScope X.N N' scope X.env.scope fr) (hc : X.calm = true) (hG : ∀ C cells s₂ H₂ fp, PG (q0v X scope N' C cells s₂ H₂ fp) tgE (gT X.K tg)) (hset : q2H iter = false) :
  PE X (.ListComp elt [⟨tgE, iter, ifs, 0⟩] scope pos) (dE X.D E δ re) := by
 obtain ⟨wi, tc, te, h1, h2, h3, h4⟩ := P
 exact (z2U (pos := pos) S hc h1 hG h2 h3 (q5f hset)).weak h4
theorem q4v {evElt : List Sv -> Option Re} (S : CompScope X.N N' scope X.env.scope fr) (hc : X.calm = true) (hnd : ∀ (j k i : Nat), fr[j]? = some (some i) -> fr[k]? = some (some i) -> j = k) (hsl : ∀ i ∈ q2R tg, fr[i]? = some none) (hi : ∀ q, ri = some q -> PI X tgE iter (dI X.D E δ q))
  (hG : ∀ C cells s₂ H₂ fp, PG (q0v X scope N' C cells s₂ H₂ fp) tgE (gT X.K tg)) (he : ∀ δ' r, evElt δ' = some r -> ∀ C cells s₂ H₂ fp, PE (q0v X scope N' C cells s₂ H₂ fp) elt (dE X.D E0s δ' r))
  (h : (Ri.thn ri λ ds c => if c = .weak \/ mostLen < ds.length then none else q1z (q0X (λ d => (tg.bind d (q0R fr δ)).bind λ δ' => Rc.of (evElt δ')) ds)) = some re) : q1x X E δ tgE iter [] elt scope N' fr tg re := by
 cases hri : ri with
 | none => rw [hri] at h; cases h
 | some q =>
  rw [hri] at h
  have A := hi q hri
  refine ⟨_, _, _, A, (λ C cells s₂ H₂ fp => z3a), (λ C cells s₂ H₂ fp => PE.any (ι := { p : List Sv × Re // evElt p.1 = some p.2 }) (t := λ k => dE X.D E0s k.1.1 k.1.2) λ k => he k.1.1 k.1.2 k.2 C cells s₂ H₂ fp), ?_⟩
  cases q with
  | ex c => cases h; exact λ σ H Q ⟨O, W, R, p⟩ => ⟨O, W, R, p⟩
  | ok ds c =>
   have h' : (if c = .weak \/ mostLen < ds.length then none else q1z (q0X (λ d => (tg.bind d (q0R fr δ)).bind λ δ' => Rc.of (evElt δ')) ds)) = some re := h
   split at h'
   ·cases h'
   ·rename_i m
    rw [not_or] at m
    unfold q1z at h'
    split at h'
    ·cases h'
    ·rename_i xs hx
     cases h'
     refine λ σ H Q ⟨O, W, R, p⟩ => ⟨O, W, R, λ J H1 s1 w => ?_⟩
     refine q6T (tg := tg) (D := X.D) w R.hid m.1 ((R.mono s1).inner fr hnd) (λ i hi => .inl (q5W (hsl i hi))) (q1D (by omega)) hx s1 (λ d rc hm hg => ?_) (λ d x hm hg δ' hb σ' H2 s2 R2 K hK => ?_) p
     ·cases hb : tg.bind d (q0R fr δ) with
      | none => rw [hb] at hg; cases hg
      | some δ' =>
       rw [hb] at hg
       refine ⟨δ', rfl, λ σ' H2 s2 R2 K k1 k2 => ?_⟩
       cases rc with
       | skip => exact (Rc.of_skip hg).elim
       | item x => exact k2 x rfl H2 (Same.refl _)
     ·rw [hb] at hg
      obtain ⟨cl, e1, e2⟩ := Rc.of_item hg
      exact ⟨⟨⟨δ', .ok x cl⟩, e1⟩, O, W, R2, λ v H3 s3 g3 => hK v H3 s3 (g3.stro (R2.hid.mono s3) e2)⟩
theorem q3V {evElt : List Sv -> Option Re} {evC : List Sv -> Option Rt} {cond : Expr} (S : CompScope X.N N' scope X.env.scope fr) (hc : X.calm = true) (hnd : ∀ (j k i : Nat), fr[j]? = some (some i) -> fr[k]? = some (some i) -> j = k) (hsl : ∀ i ∈ q2R tg, fr[i]? = some none) (hi : ∀ q, ri = some q -> PI X tgE iter (dI X.D E δ q))
  (hG : ∀ C cells s₂ H₂ fp, PG (q0v X scope N' C cells s₂ H₂ fp) tgE (gT X.K tg)) (he : ∀ δ' r, evElt δ' = some r -> ∀ C cells s₂ H₂ fp, PE (q0v X scope N' C cells s₂ H₂ fp) elt (dE X.D E0s δ' r))
  (ht : ∀ δ' r, evC δ' = some r -> ∀ C cells s₂ H₂ fp, PT (q0v X scope N' C cells s₂ H₂ fp) cond (dT X.D E0s δ' r))
  (h : (Ri.thn ri λ ds c => if c = .weak \/ mostLen < ds.length then none else q1z (q0X (λ d => (tg.bind d (q0R fr δ)).bind λ δ' => Rc.test (evC δ') (Rc.of (evElt δ'))) ds)) = some re) : q1x X E δ tgE iter [cond] elt scope N' fr tg re := by
 cases hri : ri with
 | none => rw [hri] at h; cases h
 | some q =>
  rw [hri] at h
  have A := hi q hri
  refine ⟨_, _, _, A, (λ C cells s₂ H₂ fp => PTs.any (ι := { p : List Sv × Rt // evC p.1 = some p.2 }) (t := λ k => dT X.D E0s k.1.1 k.1.2) λ k => z2b (ht k.1.1 k.1.2 k.2 C cells s₂ H₂ fp)),
   (λ C cells s₂ H₂ fp => PE.any (ι := { p : List Sv × Re // evElt p.1 = some p.2 }) (t := λ k => dE X.D E0s k.1.1 k.1.2) λ k => he k.1.1 k.1.2 k.2 C cells s₂ H₂ fp), ?_⟩
  cases q with
  | ex c => cases h; exact λ σ H Q ⟨O, W, R, p⟩ => ⟨O, W, R, p⟩
  | ok ds c =>
   have h' : (if c = .weak \/ mostLen < ds.length then none else q1z (q0X (λ d => (tg.bind d (q0R fr δ)).bind λ δ' => Rc.test (evC δ') (Rc.of (evElt δ'))) ds)) = some re := h
   split at h'
   ·cases h'
   ·rename_i m
    rw [not_or] at m
    unfold q1z at h'
    split at h'
    ·cases h'
    ·rename_i xs hx
     cases h'
     refine λ σ H Q ⟨O, W, R, p⟩ => ⟨O, W, R, λ J H1 s1 w => ?_⟩
     refine q6T (tg := tg) (D := X.D) w R.hid m.1 ((R.mono s1).inner fr hnd) (λ i hi => .inl (q5W (hsl i hi))) (q1D (by omega)) hx s1 (λ d rc hm hg => ?_) (λ d x hm hg δ' hb σ' H2 s2 R2 K hK => ?_) p
     ·cases hb : tg.bind d (q0R fr δ) with
      | none => rw [hb] at hg; cases hg
      | some δ' =>
       rw [hb] at hg
       have hg' : Rc.test (evC δ') (Rc.of (evElt δ')) = some rc := hg
       refine ⟨δ', rfl, λ σ' H2 s2 R2 K k1 k2 => ?_⟩
       unfold Rc.test at hg'
       split at hg'
       ·rename_i q
        refine ⟨⟨⟨δ', .ok true⟩, q⟩, O, W, R2, λ H3 s3 => ?_⟩
        cases rc with
        | skip => exact (Rc.of_skip hg').elim
        | item x => exact k2 x rfl H3 s3
       ·rename_i q
        cases hg'
        exact ⟨⟨⟨δ', .ok false⟩, q⟩, O, W, R2, λ H3 s3 => k1 rfl H3 s3⟩
       ·cases hg'
     ·rw [hb] at hg
      have hg' : Rc.test (evC δ') (Rc.of (evElt δ')) = some (.item x) := hg
      unfold Rc.test at hg'
      split at hg'
      ·obtain ⟨cl, e1, e2⟩ := Rc.of_item hg'
       exact ⟨⟨⟨δ', .ok x cl⟩, e1⟩, O, W, R2, λ v H3 s3 g3 => hK v H3 s3 (g3.stro (R2.hid.mono s3) e2)⟩
      ·cases hg'
      ·cases hg'
end
end L2
end
section
namespace L2
open PySem PySem.Spec PyProof.Rows
theorem Inv.turnedL {X : Cx} {pins : List (Addr × Obj)} {σ : St} {H : Hp} {s : Shared} {h' : Heap} {t' : Nat} {ch : List Addr} (I : Inv X pins σ H s) (k : ∀ b o, b ∉ ch -> s.heap.get? b = some o -> h'.get? b = some o) (hf : ∀ b ∈ ch, FpOk X pins H b) : Inv X pins σ H { s with heap := h', toks := t' } := by
 have nit : ∀ b u, H b = some u -> b ∉ ch := λ b u e z => by rw [(hf b z).1] at e; cases e
 refine I.step (g' := s.gens) (d' := s.drawn) (ch := ch) (λ b hb => ?_) (λ b o _ _ hc e _ => k b o hc e) (λ b o _ _ hc e _ => ⟨o.slots, k b o hc e⟩) (λ _ _ _ _ n => n)
  (λ b o hc e => ⟨o, k b o hc e⟩) (λ _ _ e => e) (λ _ _ _ e => e) (λ b ps e => ⟨#[], by rw [e]; simp⟩) (λ m hm => ?_) (λ b u e => ?_) I.bare
 ·obtain ⟨_, f1, _, f3, f4, f5⟩ := hf b hb
  exact ⟨f3, f1, f4, f5⟩
 ·obtain ⟨o, es, ep, ho, r⟩ := hm
  exact ⟨o, es, ep, k _ o (λ z => (hf _ z).2.1 rfl) ho, r⟩
 ·refine (I.hok b u e).stay (λ c v hc q => k c v ?_ q) (λ _ q => q) λ _ _ q => q
  rcases hc with z | z
  ·rw [z]; exact nit b u e
  ·exact nit c _ z
noncomputable def SqD (t : Bool) (K : PySem.W.Frag) (H : Hp) (a : Addr) (xs : List V) : Prop := match t with | false => SqL K H a xs | true => SqT K H a xs
theorem Same.sqd {t : Bool} {K : PySem.W.Frag} {H H' : Hp} {a : Addr} {xs : List V} (e : Same H H') (h : SqD t K H a xs) : SqD t K H' a xs := by
 cases t
 ·exact e.seq h
 ·exact e.tseq h
theorem Inv.sqd {X : Cx} {pins : List (Addr × Obj)} {σ : St} {H : Hp} {s : Shared} {t : Bool} {a : Addr} {xs : List V} (I : Inv X pins σ H s) (h : SqD t X.K H a xs) : ∃ its : List Value, Vals xs its /\ SqK t s.heap a its.toArray := by
 cases t
 ·obtain ⟨its, rv, p, _⟩ := I.list h
  exact ⟨its, rv, p.isList⟩
 ·obtain ⟨its, rv, p, _⟩ := I.tuple h
  exact ⟨its, rv, p⟩
theorem Inv.sqd_inj {X : Cx} {pins : List (Addr × Obj)} {σ : St} {H : Hp} {s : Shared} {t : Bool} {a : Addr} {xs ys : List V} (I : Inv X pins σ H s) (h : SqD t X.K H a xs) (h' : SqD t X.K H a ys) : xs = ys := by
 cases t
 ·exact I.list_inj h h'
 ·exact I.tuple_inj h h'
noncomputable def itK (t : Bool) (h : Heap) (ia la : Addr) (k : Nat) : Prop := match t with | false => h.IsListIter ia la k | true => h.IsTupleIter ia la k
theorem z5w {t : Bool} {ia la : Addr} {vs : Array Value} {k : Nat} {h : Heap} (p : itK t h ia la k) (q : SqK t h la vs) : sK t ia la vs k h := by
 cases t <;> exact ⟨p, q⟩
theorem z4t {t : Bool} {ia la : Addr} {vs : Array Value} {k : Nat} {h : Heap} (p : sK t ia la vs k h) : itK t h ia la k := by
 cases t <;> exact p.1
theorem z1x {t : Bool} {ia la : Addr} {k : Nat} {h h' : Heap} (p : itK t h ia la k) (e : ∀ o, h.get? ia = some o -> h'.get? ia = some o) : itK t h' ia la k := by
 cases t
 ·exact Heap.IsListIter.at p e
 ·obtain ⟨o, z, r⟩ := p; exact ⟨o, e o z, r⟩
theorem q6c {t : Bool} {ia la : Addr} {k : Nat} {h : Heap} (p : itK t h ia la k) : ∃ o xs, h.get? ia = some o /\ o.data = .fields xs := by
 cases t
 ·obtain ⟨o, e, _, d⟩ := p; exact ⟨o, _, e, d⟩
 ·obtain ⟨o, e, _, d⟩ := p; exact ⟨o, _, e, d⟩
theorem SqK.lt {t : Bool} {h : Heap} {a : Addr} {vs : Array Value} (p : SqK t h a vs) : a < h.objs.size := by
 cases t
 ·obtain ⟨o, e, _⟩ := p; exact Heap.lt_size e
 ·obtain ⟨o, e, _⟩ := p; exact Heap.lt_size e
theorem q7X {O W : List Addr} {c c' : Cl} : ∀ b ∈ hidW O W (Cl.meet c c'), b ∈ hidW O W c := by
 cases c <;> cases c' <;> intro b hb <;> first | exact hb | exact List.mem_append_left _ hb
theorem q4U {O W : List Addr} {c c' : Cl} : ∀ b ∈ q1r O W (Cl.meet c c'), b ∈ q1r O W c := by
 cases c <;> cases c' <;> intro b hb <;> first | exact hb | exact List.mem_append_left _ hb
section
variable {X : Cx} {E : St -> XK} {δ : List Sv} {e e' : Expr} {elts : List Expr} {k : Nat} {tpos pos p : Pos} {ra rb : Option Re} {ri : Ri}
theorem q8o {D : Dm} {O W : List Addr} {H0 H : Hp} {d : DV} {t : Bool} {ds : List DV} {c : Cl} {v : V} (k : z5c d = some (t, ds)) (g : Got D O W H0 H d c v) (hd : Hid O W H0 H) : ∃ a xs, v = .ref a /\ SqD t D.K (L2.wo (hidW O W c) H) a xs /\ RepL D (L2.wo (q1r O W c) H) ds xs := by
 cases d <;> cases k
 ·exact g.walkT hd
 ·exact g.walkL hd
end
end L2
end
section
namespace L2
open PySem PySem.Spec PyProof.Rows
section
variable {P : Program} {w : World} {A : Around} {E : Value -> Shared -> Prop} {s : Shared} {n c l : Addr} {k : Nat} {vs : Array Value} {S : Nat -> Heap -> Prop} {x old : Value}
noncomputable abbrev z4J (s : Shared) (h' : Heap) (n c : Addr) (k : Nat) (x : Value) (S : Nat -> Heap -> Prop) : Prop :=
 IsEnumOut h' n c ((k : Int) + 1) x s.heap.objs.size /\ S (k + 1) h' /\ h'.get? s.heap.objs.size = some { cls := .type "tuple", data := .seq #[.int k s.toks, x] } /\ h'.objs.size = s.heap.objs.size + 1 /\ (∀ b o, b ≠ n -> b ≠ c -> s.heap.get? b = some o -> h'.get? b = some o)
theorem q8x {Q : Value -> Shared -> Prop} (R : Src P w c l vs S) (hn : IsEnum s.heap n c k old) (hS : S k s.heap) (hx : vs[k]? = some x) (d1 : n ≠ c) (d2 : l ≠ n) (hQ : ∀ h', z4J s h' n c k x S -> Q (.ref s.heap.objs.size) { s with heap := h', toks := s.toks + 1 }) :
  wpAny (model P w) A (Builtin.«enumerate.__next__» ⟨[.ref n], []⟩) (λ fin s' => ∃ v, fin = .done (.ret v) /\ Q v s') E s := by
 obtain ⟨g0, gg, gd, gt, go⟩ := s
 show wpAny _ _ (field (.ref n) 2 >>= _) _ _ _
 refine wpAny_bind (wpAny_field hn rfl (x := .ref c) rfl (wpAny_bind (R.step k x hS hx λ g1 r1 t1 => ?_)))
 replace t1 : Heap.SameBut c g0 g1 := t1
 have n1 : IsEnum g1 n c k old := (t1.2 n d1).trans hn
 show wpAny _ _ (field (.ref n) 3 >>= _) _ _ ⟨g1, gg, gd, gt, go⟩
 refine wpAny_bind (wpAny_field n1 rfl (x := rawInt k) rfl ?_); show wpAny _ _ (field (.ref n) 4 >>= _) _ _ ⟨g1, gg, gd, gt, go⟩
 refine wpAny_bind (wpAny_field n1 rfl (x := .none) rfl ?_); show wpAny _ _ (mkInt k >>= _) _ _ ⟨g1, gg, gd, gt, go⟩
 refine wpAny_bind (wpAny_mkInt ?_); show wpAny _ _ (setField (.ref n) 3 (rawInt ((k : Int) + 1)) >>= _) _ _ ⟨g1, gg, gd, gt + 1, go⟩
 refine wpAny_bind (wpAny_setField_rec n1 (by simp) λ g2 n2 t2 => ?_)
 replace t2 : Heap.SameBut n g1 g2 := t2
 replace n2 : IsEnum g2 n c ((k : Int) + 1) old := n2
 show wpAny _ _ (setField (.ref n) 4 .none >>= _) _ _ ⟨g2, gg, gd, gt + 1, go⟩
 refine wpAny_bind (wpAny_setField_rec n2 (by simp) λ g3 n3 t3 => ?_)
 replace t3 : Heap.SameBut n g2 g3 := t3
 replace n3 : IsEnum g3 n c ((k : Int) + 1) old := n3
 show wpAny _ _ (newTuple [.int k gt, x] >>= _) _ _ ⟨g3, gg, gd, gt + 1, go⟩
 refine wpAny_bind (wpAny_newTuple ?_)
 have n4 : IsEnum (g3.push { cls := .type "tuple", data := .seq #[.int k gt, x] }) n c ((k : Int) + 1) old := Heap.get?_push_of_some _ n3
 have z3 : g3.objs.size = g0.objs.size := by rw [t3.1, t2.1, t1.1]
 have q4 : (g3.push { cls := .type "tuple", data := .seq #[.int k gt, x] }).get? g0.objs.size = some { cls := .type "tuple", data := .seq #[.int k gt, x] } := by rw [← z3]; exact Heap.get?_push_size _ rfl
 have z4 : (g3.push { cls := .type "tuple", data := .seq #[.int k gt, x] }).objs.size = g0.objs.size + 1 := by rw [Heap.size_push, z3]
 have k4 : ∀ b o, b ≠ n -> b ≠ c -> g0.get? b = some o -> (g3.push { cls := .type "tuple", data := .seq #[.int k gt, x] }).get? b = some o := λ b o b1 b2 e =>
  Heap.get?_push_of_some _ (t3.extBut b o b1 (t2.extBut b o b1 (t1.extBut b o b2 e)))
 have r4 : S (k + 1) (g3.push { cls := .type "tuple", data := .seq #[.int k gt, x] }) :=
  R.keep _ _ _ (R.ext (R.ext r1 t2.extBut (Ne.symm d1) d2) t3.extBut (Ne.symm d1) d2) (λ o e => Heap.get?_push_of_some _ e) (λ o e => Heap.get?_push_of_some _ e)
 generalize (g3.push { cls := .type "tuple", data := .seq #[.int k gt, x] }) = g4 at n4 q4 z4 k4 r4 ⊢
 have lt : n < g0.objs.size := Heap.lt_size hn
 show wpAny _ _ (Builtin.SmallTypes.ownedTupleIsFree (.ref n) >>= _) _ _ ⟨g4, gg, gd, gt + 1, go⟩
 rw [z3]
 refine wpAny_bind ?_; unfold Builtin.SmallTypes.ownedTupleIsFree
 refine wpAny_bind (wpAny_field n4 rfl (x := .none) rfl (wpAny_pure ?_)); simp only [if_true]
 refine wpAny_bind (wpAny_rule (wpAny_bind (wpAny_field n4 rfl (x := old) rfl (wpAny_bind (wpAny_setField_rec n4 (by simp) λ g5 n5 t5 => ?_)))))
 replace t5 : Heap.SameBut n g4 g5 := t5
 replace n5 : IsEnum g5 n c ((k : Int) + 1) x := n5
 show wpAny _ _ (Builtin.SmallTypes.ownedTupleHandOut (.ref n) (.ref g0.objs.size) >>= _) _ _ ⟨g5, gg, gd, gt + 1, go⟩
 refine wpAny_bind ?_; unfold Builtin.SmallTypes.ownedTupleHandOut
 refine wpAny_bind (wpAny_setField_rec n5 (by simp) λ g6 n6 t6 => ?_)
 replace t6 : Heap.SameBut n g5 g6 := t6
 replace n6 : IsEnumOut g6 n c ((k : Int) + 1) x g0.objs.size := n6
 refine wpAny_setField_rec n6 (by simp) λ g7 n7 t7 => ?_
 replace t7 : Heap.SameBut n g6 g7 := t7
 replace n7 : IsEnumOut g7 n c ((k : Int) + 1) x g0.objs.size := n7
 have up : ∀ b o, b ≠ n -> g4.get? b = some o -> g7.get? b = some o := λ b o b1 e => t7.extBut b o b1 (t6.extBut b o b1 (t5.extBut b o b1 e))
 exact wpAny_bind (wpAny_letGo (wpAny_pure ⟨_, rfl, hQ g7 ⟨n7, R.keep _ _ _ r4 (λ o e => up _ o (Ne.symm d1) e) (λ o e => up _ o d2 e), up _ _ (Nat.ne_of_gt lt) q4, by rw [t7.1, t6.1, t5.1, z4], λ b o b1 b2 e => up b o b1 (k4 b o b1 b2 e)⟩⟩))
theorem q8H {Q : Option Value -> Shared -> Prop} (R : Src P w c l vs S) (hn : IsEnum s.heap n c k old) (hS : S k s.heap) (hx : vs[k]? = some x) (d1 : n ≠ c) (d2 : l ≠ n) (hQ : ∀ h', z4J s h' n c k x S -> Q (some (.ref s.heap.objs.size)) { s with heap := h', toks := s.toks + 1 }) :
  wpAny (model P w) A (pyNext (.ref n)) Q E s := by
 have T : s.TypeIs (.ref n) "enumerate" := ⟨_, hn, rfl⟩
 unfold pyNext
 exact wpAny_bind (wpAny_attempt (wpAny_callSpecial?_slot (name := Str.ofString "__next__") T F.slot_enumerate_next (wpAny_call_entry F.slot_enumerate_next T F.entry_enumerate_next (q8x R hn hS hx d1 d2 λ h' a => wpAny_pure (hQ h' a)) (F.args_enumerate_next_1 _))))
theorem q8C {Q : Option Value -> Shared -> Prop} (hh : A.handled = none) (R : Src P w c l vs S) (hn : IsEnum s.heap n c k old) (hS : S k s.heap) (hx : vs[k]? = none) (hQ : ∀ h', Heap.ExtBut c s.heap h' -> Q none { s with heap := h' }) :
  wpAny (model P w) A (pyNext (.ref n)) Q E s := by
 have T : s.TypeIs (.ref n) "enumerate" := ⟨_, hn, rfl⟩
 unfold pyNext
 refine wpAny_bind (wpAny_attempt (wpAny_callSpecial?_slot (name := Str.ofString "__next__") T F.slot_enumerate_next (wpAny_call_entry F.slot_enumerate_next T F.entry_enumerate_next ?_ (F.args_enumerate_next_1 _))))
 show wpAny _ _ (field (.ref n) 2 >>= _) _ _ _
 refine wpAny_bind (wpAny_field hn rfl (x := .ref c) rfl (wpAny_bind (R.stop k hh hS hx λ g1 e t1 he => ?_)))
 obtain ⟨o, q1, q2⟩ := he
 exact wpAny_bind (wpAny_isInstance (T := "StopIteration") (b := true) ⟨o, q1, q2⟩ isSubtype_stop (wpAny_pure (hQ _ t1)))
end
open AutoSeq1 (wpAny_loadPart') in
theorem q7U (l : Addr) (vs : Array Value) (m : Nat) (dc : Option Addr) (sl : Array (Option Value)) : Meets (Builtin.«enumerate.__new__» ⟨[.type "enumerate", .ref l], []⟩) (λ _ R s => s.heap.get? l = some { cls := .type "tuple", dict := dc, data := .seq vs m, slots := sl } /\
  R (.ok (.ret (.ref (zH1 s.heap true l).objs.size))) { s with heap := (zH1 s.heap true l).push { cls := .type "enumerate", data := .fields #[.none, .bool false, .ref s.heap.objs.size, rawInt 0, .none, .none] } }) :=
 .of_wp λ P w A R s h => by
  obtain ⟨g0, gg, gd, gt, go⟩ := s
  obtain ⟨q, h⟩ := h
  have hsub := sub_enumerate
  have qT : Heap.IsTuple (Shared.heap ⟨g0, gg, gd, gt, go⟩) l vs := ⟨_, q, rfl, m, rfl⟩
  wp_walk using wpAny_loadPart' q
  refine wpAny_stack_any λ st => wpAny_pure ?_; split
  ·rename_i y _ _ _ _ _; cases (y == Value.type "enumerate")
   ·wp_walk using wpAny_loadPart' q, wpAny_pyIter_tuple qT
    exact ⟨_, rfl, h⟩
   ·wp_walk using wpAny_loadPart' q, wpAny_pyIter_tuple qT
    exact ⟨_, rfl, h⟩
  ·wp_walk using wpAny_loadPart' q, wpAny_pyIter_tuple qT
   exact ⟨_, rfl, h⟩
theorem q7I {P : Program} {w : World} {A : Around} {E : Value -> Shared -> Prop} {s : Shared} {l : Addr} {vs : Array Value} {Q : Value -> Shared -> Prop} (t : Bool) (q : SqK t s.heap l vs)
    (h : ∀ h', IsEnum h' (s.heap.objs.size + 1) s.heap.objs.size 0 .none -> sK t s.heap.objs.size l vs 0 h' -> h'.objs.size = s.heap.objs.size + 2 -> (∀ b o, s.heap.get? b = some o -> h'.get? b = some o) -> Q (.ref (s.heap.objs.size + 1)) { s with heap := h' }) :
    wpAny (model P w) A (call (.type "enumerate") [.ref l]) Q E s := by
  cases t with
  | false => exact call_enumerate_list (show s.heap.IsList l vs from q) λ h' a1 a2 a3 a4 => h h' a1 ⟨a2, Heap.IsList.at (show s.heap.IsList l vs from q) λ o e => a4 _ o e⟩ a3 a4
  | true =>
    obtain ⟨⟨y, dc, dt, sl⟩, q1, q2, m, q3⟩ := id (show s.heap.IsTuple l vs from q)
    replace q2 : y = .type "tuple" := q2
    replace q3 : dt = .seq vs m := q3
    subst q2 q3
    refine callType_new F.called_enumerate (by decide) (F.typeCall_enumerate_1 _) (F.newCall_enumerate_1 _) (λ obj => F.args_object_init_2 obj _) F.entry_enumerate_new (q7U l vs m dc sl) ⟨q1, ?_⟩
    have n1 : (zH1 s.heap true l).objs.size = s.heap.objs.size + 1 := Heap.size_push ..
    have e2 := Heap.get?_push_size (zH1 s.heap true l) (o := { cls := .type "enumerate", data := .fields #[.none, .bool false, .ref s.heap.objs.size, rawInt 0, .none, .none] }) rfl
    have e1 : ((zH1 s.heap true l).push { cls := .type "enumerate", data := .fields #[.none, .bool false, .ref s.heap.objs.size, rawInt 0, .none, .none] }).get? s.heap.objs.size = some (itO true l) := Heap.get?_push_of_some _ (Heap.get?_push_size _ rfl)
    have kp : ∀ b o, s.heap.get? b = some o -> ((zH1 s.heap true l).push { cls := .type "enumerate", data := .fields #[.none, .bool false, .ref s.heap.objs.size, rawInt 0, .none, .none] }).get? b = some o := λ b o e => Heap.get?_push_of_some _ (Heap.get?_push_of_some _ e)
    rw [n1] at e2
    show _ /\ _
    rw [n1]
    exact ⟨⟨_, e2, rfl⟩, h _ e2 (z5k e1 q kp) (by rw [Heap.size_push, n1]) kp⟩
end L2
end
section
namespace L2
open PySem PySem.Spec PyProof.Rows
noncomputable def Ite (K : PySem.W.Frag) (t : Bool) (a : Addr) : It :=
  ⟨λ i H => ∃ xs x, SqD t K H a xs /\ xs[i]? = some x,
   λ i H x H' => ∃ p v, x = .ref p /\ H p = none /\ (∀ xs, SqD t K H a xs -> xs[i]? = some v) /\ H' = upd H p (.tup [.int i, v]),
   λ i H => ∃ xs, SqD t K H a xs /\ xs.length <= i⟩
theorem q9X {P : Program} {w : World} {K : PySem.W.Frag} {elts : List Expr} {k : Nat} {pos : Pos} {n c l : Addr} (t : Bool) (d1 : n ≠ c) (d2 : l ≠ n) (d3 : l ≠ c) :
  Turn P w K (.Tuple elts k pos) (Ite K t l) [n, c] n (λ i h => (∃ old, IsEnum h n c (i : Nat) old) /\ itK t h c l i) where
 mem := by simp
 obj := λ i h st b hb => by
  obtain ⟨⟨old, hn⟩, h1⟩ := st
  simp only [List.mem_cons, List.not_mem_nil, or_false] at hb
  rcases hb with rfl | rfl
  ·exact ⟨_, hn, λ v q => by cases q⟩
  ·obtain ⟨o, xs, e, d⟩ := q6c h1; exact ⟨o, e, λ v q => by rw [d] at q; cases q⟩
 keep := λ i h h' st q => by
  obtain ⟨⟨old, hn⟩, h1⟩ := st
  exact ⟨⟨old, q n (by simp) _ hn⟩, z1x h1 λ o e => q c (by simp) o e⟩
 item := by
  intro X hP hw hK hc i pins s σ H E I hf st hg
  subst hP hw hK
  obtain ⟨⟨old, hn⟩, h1⟩ := st
  obtain ⟨xs, x, q1, hx⟩ := hg
  obtain ⟨its, rv, p⟩ := I.sqd q1
  obtain ⟨u, hu, ru⟩ := rv.get hx
  refine q8H (z4E t d3) hn (z5w h1 p) (x := u) (by simpa using hu) d1 d2 λ h' a => ⟨_, rfl, ?_⟩
  obtain ⟨a1, a2, a3, a4, a5⟩ := a
  refine wpAny_letOwnedTupleGo_enum a1 λ h2 hn2 t2 => ?_
  have hsz : s.heap.objs.size ≠ n := Nat.ne_of_gt (Heap.lt_size hn)
  have keep : ∀ b o, b ∉ [n, c] -> s.heap.get? b = some o -> h2.get? b = some o := λ b o hb e => t2.extBut _ _ (λ q => hb (by simp [q])) (a5 b o (λ q => hb (by simp [q])) (λ q => hb (by simp [q])) e)
  have I1 : Inv X pins σ H { s with heap := h2, toks := s.toks + 1 } := I.turnedL (t' := s.toks + 1) keep hf
  have hn' : H s.heap.objs.size = none := I.hok.fresh (Nat.le_refl _)
  have f5 := I.fpOk (Nat.le_refl _) hn'
  have new : h2.get? s.heap.objs.size = some { cls := .type "tuple", data := .seq #[.int i s.toks, u] } := t2.extBut _ _ hsz a3
  have h0 : X.s₀.heap.get? s.heap.objs.size = none := Heap.get?_none_of_le I.sz
  have I2 : Inv X pins σ (upd H s.heap.objs.size (.tup [.int i, x])) { s with heap := h2, toks := s.toks + 1 } := I1.track hn' h0 f5.2.1 (λ n c e => f5.2.2.2.2.1 n c e) (λ q hq => f5.2.2.2.2.2 q hq)
   ⟨by show (2 : Nat) <= sizeLine; decide, [.int i s.toks, u], .cons ⟨_, rfl⟩ (.cons ru .nil), _, new, ⟨rfl, rfl⟩, _, rfl⟩
  refine ⟨.ref s.heap.objs.size, _, I2, rfl, ⟨_, x, rfl, hn', λ xs' e => by rw [I.sqd_inj e q1]; exact hx, rfl⟩, ⟨⟨_, by simpa using hn2⟩, z1x (z4t a2) λ o e => t2.extBut _ _ (Ne.symm d1) e⟩, λ b hb => ?_⟩
  have lt : b ≠ s.heap.objs.size := by
   simp only [List.mem_cons, List.not_mem_nil, or_false] at hb
   rcases hb with rfl | rfl
   ·exact Ne.symm hsz
   ·obtain ⟨o, _, e, _⟩ := q6c h1; exact Nat.ne_of_lt (Heap.lt_size e)
  rw [q0z lt]
  exact (hf b hb).1
 done := by
  intro X hP hw hK hc i pins s σ H E I hf st hg
  subst hP hw hK
  obtain ⟨⟨old, hn⟩, h1⟩ := st
  obtain ⟨xs, q1, hx⟩ := hg
  obtain ⟨its, rv, p⟩ := I.sqd q1
  have e1 := rv.length
  exact q8C (I.ok.hd hc) (z4E t d3) hn (z5w h1 p) (by simp; omega) λ h' a => ⟨rfl, I.turnedL (t' := s.toks) (ch := [n, c]) (λ b o hb e => a b o (λ q => hb (by simp [q])) e) hf⟩
 self := λ _ _ _ _ _ st h => by
  obtain ⟨⟨old, hn⟩, _⟩ := st
  exact wpAny_pyIter_enum hn h
theorem q2V : ∀ (k : Nat) (xs : List DV), (enuD k xs).length = xs.length
 | _, [] => rfl
 | k, x :: xs => by rw [enuD, List.length_cons, q2V (k + 1) xs, List.length_cons]
theorem q7v : ∀ {k : Nat} {xs : List DV} {i : Nat} {d : DV}, (enuD k xs)[i]? = some d -> ∃ x, xs[i]? = some x /\ d = .tup [.int ((k + i : Nat) : Int), x]
 | _, [], _, _, h => by simp [enuD] at h
 | k, x :: xs, 0, d, h => by simp [enuD] at h; exact ⟨x, rfl, h.symm⟩
 | k, x :: xs, i + 1, d, h => by
  rw [enuD, List.getElem?_cons_succ] at h
  obtain ⟨y, e1, e2⟩ := q7v h
  exact ⟨y, by simpa using e1, by rw [e2, show k + 1 + i = k + (i + 1) from by omega]⟩
theorem Wk.enum {D : Dm} {ds : List DV} {Oc Oi : List Addr} {H1 : Hp} {a : Addr} {xs : List V} {t : Bool} (h : SqD t D.K (L2.wo Oc H1) a xs) (r : RepL D (L2.wo Oi H1) ds xs) : Wk D (Ite D.K t a) (enuD 0 ds) Oc Oi H1 where
 go := λ i H s hi => by
  rw [q2V] at hi
  exact ⟨xs, xs[i]'(by rw [r.length]; omega), q1o.sqd (s.sqd h), List.getElem?_eq_getElem _⟩
 same := λ i H x H' y => by
  obtain ⟨p, v, _, hp, _, e⟩ := y
  rw [e]; exact q0o hp
 yld := λ i H x H' d O2 s s' y e ho => by
  obtain ⟨p, v, ex, hp, y1, eH⟩ := y
  obtain ⟨d1, q1, rfl⟩ := q7v e
  obtain ⟨v1, z1, z2⟩ := r.get q1
  have w1 := y1 xs (q1o.sqd (s.sqd h))
  rw [z1] at w1; cases w1
  have hpo : p ∉ O2 := λ z => (ho p z).1 hp
  subst eH
  refine q0S.mpr ⟨p, _, ex, SqT.of (by rw [q0A hpo]; exact q1d), ?_⟩
  have up : Same (L2.wo Oi H1) (L2.wo O2 (upd H p (.tup [.int i, v]))) := (q8T s' ho).trans (q0o hp).wo
  exact q0m.mpr ⟨_, _, rfl, q0B.mpr (by rw [Nat.zero_add]), RepL.one (z2.mono up)⟩
 stop := λ H s => ⟨xs, q1o.sqd (s.sqd h), by rw [q2V, r.length]; exact Nat.le_refl _⟩
section
variable {X : Cx} {E : St -> XK} {δ : List Sv} {e : Expr} {elts : List Expr} {k : Nat} {tpos pos p : Pos} {ra : Option Re} {ri : Ri}
theorem q3Z {n a : Nat} (h : a < n) : n + 1 ≠ n /\ a ≠ n + 1 /\ a ≠ n := by omega
theorem q7K : bootBuiltins "enumerate" = some (.type "enumerate") := by decide +kernel
theorem z2S {ta : TA} (hg : Gl X "enumerate") (hm : X.mg "enumerate" = none) (ha : PA X [e] ta) (hs : q0p e = false) :
  PI X (.Tuple elts k tpos) (.Call (.Name "enumerate" p) [e] [] pos) (λ σ H R => ta σ H λ vs H1 => ∃ t a, vs = [.ref a] /\ (∃ xs, SqD t X.K H1 a xs) /\ R (Ite X.K t a) H1) := by
 intro pins s σ H R I h
 refine Call_ (q3b I hg hm q7K (PyProof.Rows.callWith_type1 (thn (ha pos pins s σ H _ I h) λ us s1 ⟨vs, H1, I1, r1, q1⟩ => ?_) (by rw [q0s hs]) (q2z [] (by simp))))
 obtain ⟨t, a, e1, ⟨xs, hx⟩, q⟩ := q1
 subst e1
 obtain ⟨u, rfl, ru⟩ := r1.one
 cases ru
 obtain ⟨its, rv, p1⟩ := I1.sqd hx
 have la := p1.lt
 refine q7I t p1 λ h' z1 z4 z6 z7 => ?_
 have I2 : Inv X pins σ H1 { s1 with heap := h' } := I1.kept (t' := s1.toks) z7
 refine wpAny_pyIter_enum z1 ⟨s1.heap.objs.size + 1, [s1.heap.objs.size + 1, s1.heap.objs.size], _, _, H1, rfl, I2,
  q9X (l := a) t (q3Z la).1 (q3Z la).2.1 (q3Z la).2.2, ⟨⟨_, z1⟩, z4t z4⟩, λ c hc => ?_, q⟩
 have hc' : s1.heap.objs.size <= c := by
  simp only [List.mem_cons, List.not_mem_nil, or_false] at hc
  rcases hc with rfl | rfl
  ·exact Nat.le_add_right ..
  ·exact Nat.le_refl _
 exact I1.fpOk hc' (I1.hok.fresh hc')
theorem z0V (hg : Gl X "enumerate") (hm : X.mg "enumerate" = none) (hs : q0p e = false) (ha : ∀ q, ra = some q -> PE X e (dE X.D E δ q))
  (h : q1b (Re.thn ra λ x c => q9g x c) = some ri) : PI X (.Tuple elts k tpos) (.Call (.Name "enumerate" p) [e] [] pos) (dI X.D E δ ri) := by
 have C := λ ta (hA : PE X e ta) => z2S (elts := elts) (k := k) (tpos := tpos) (p := p) (pos := pos) hg hm (q2a hA q4J (q0s hs)) hs
 cases hra : ra with
 | none => rw [hra] at h; cases h
 | some q =>
  rw [hra] at h
  have A := ha q hra
  cases q with
  | ex c => cases h; exact (C _ A).weak λ σ H R' ⟨O, W, R, p⟩ => ⟨O, W, R, p⟩
  | ok dx cx =>
   have h' : q1b (q9g dx cx) = some ri := h
   unfold q9g at h'
   split at h'
   ·rename_i t1 ds1 k1
    cases h'
    exact (C _ A).weak λ σ H R' ⟨O, W, R, p⟩ => ⟨O, W, R, λ x H1 s1 g1 => by
     have hd := R.hid.mono s1
     obtain ⟨a, xs, e1, e2, e3⟩ := q8o k1 g1 hd
     exact ⟨t1, a, by rw [e1], ⟨xs, q1o.sqd e2⟩, p _ H1 s1 (.enum ((q0Q q7X).sqd e2) (e3.mono (q0Q q4U)))⟩⟩
   ·cases h'
end
end L2
end
section
namespace L2
open PySem PySem.Spec PyProof.Rows
noncomputable def dEnd (D : Dm) (E : St -> XK) (H0 : Hp) (O : List Addr) (Dn : Ends) : Out -> Prop
 | .nx δ => ∀ σ H W, RSt D H σ δ O W -> (∀ a ∈ W, H0 a = none) -> Same H0 H -> Dn.nx σ H
 | .rt d fr => ∀ v H, Same H0 H -> GotR D O H0 H d fr v -> Dn.rt v H
 | .rtt d => ∀ v H, Same H0 H -> GotT D O H0 H d v -> Dn.rt v H
 | .ex c δ => ∀ σ H W C, D.mg c = some C -> RSt D H σ δ O W -> (∀ a ∈ W, H0 a = none) -> Same H0 H -> E σ C none H
noncomputable def dS (D : Dm) (E : St -> XK) (δ : List Sv) (o : Out) : TS := λ Dn σ H => ∃ H0 O W, RSt D H σ δ O W /\ (∀ a ∈ W, H0 a = none) /\ (∀ a ∈ O, H0 a ≠ none) /\ Same H0 H /\ dEnd D E H0 O Dn o
section
variable {X : Cx} {E : St -> XK} {δ δ1 : List Sv} {st : Stmt} {rest body els : List Stmt} {o : Out} {e c : Expr} {pos pos' : Pos} {ra : Option Re} {rt : Option Rt} {i : Nat} {x : Str}
theorem z2l : PSs X [] (dS X.D E δ (.nx δ)) := z3m.weak λ Dn σ H ⟨H0, O, W, R, fr, fo, sm, k⟩ => k σ H W R fr sm
theorem z0Q (h1 : PS X st (dS X.D E δ (.nx δ1))) (h2 : PSs X rest (dS X.D E δ1 o)) : PSs X (st :: rest) (dS X.D E δ o) :=
 (q3R h1 h2).weak λ Dn σ H ⟨H0, O, W, R, fr, fo, sm, k⟩ => ⟨H0, O, W, R, fr, fo, sm, λ σ' H' W' R' fr' sm' => ⟨H0, O, W', R', fr', fo, sm', k⟩⟩
theorem z4r {d : DV} {fr : Bool} (h1 : PS X st (dS X.D E δ (.rt d fr))) : PSs X (st :: rest) (dS X.D E δ (.rt d fr)) :=
 (q3R h1 q1E).weak λ Dn σ H ⟨H0, O, W, R, fr, fo, sm, k⟩ => ⟨H0, O, W, R, fr, fo, sm, k⟩
theorem z3o {d : DV} (h1 : PS X st (dS X.D E δ (.rtt d))) : PSs X (st :: rest) (dS X.D E δ (.rtt d)) :=
 (q3R h1 q1E).weak λ Dn σ H ⟨H0, O, W, R, fr, fo, sm, k⟩ => ⟨H0, O, W, R, fr, fo, sm, k⟩
theorem z4F {c : Str} {δ' : List Sv} (h1 : PS X st (dS X.D E δ (.ex c δ'))) : PSs X (st :: rest) (dS X.D E δ (.ex c δ')) :=
 (q3R h1 q1E).weak λ Dn σ H ⟨H0, O, W, R, fr, fo, sm, k⟩ => ⟨H0, O, W, R, fr, fo, sm, k⟩
theorem q5u {D : Dm} {H0 H : Hp} {O W : List Addr} {σ : St} {Dn : Ends} {c : Str} {Q : VK} (R : RSt D H σ δ O W) (fr : ∀ a ∈ W, H0 a = none) (sm : Same H0 H) (k : dEnd D E H0 O Dn (.ex c δ)) : Post D E σ O W H H Q (.ex c) :=
 λ H' C m s => k σ H' W C m (R.mono s) fr (sm.trans s)
theorem z3S (hc : ∀ q, rt = some q -> PT X c (dT X.D E δ q)) {ro rp : Option Out} (h1 : ∀ q, ro = some q -> PSs X body (dS X.D E δ q)) (h2 : ∀ q, rp = some q -> PSs X els (dS X.D E δ q)) (h : (Rt.thnS δ rt λ k => if k then ro else rp) = some o) : PS X (.If c body els pos) (dS X.D E δ o) := by
 cases hrt : rt with
 | none => rw [hrt] at h; cases h
 | some q =>
  rw [hrt] at h
  have C := hc q hrt
  cases q with
  | ex c => cases h; exact (z3q C q1E q1E).weak λ Dn σ H ⟨H0, O, W, R, fr, fo, sm, k⟩ => ⟨O, W, R, λ H' C m s => k σ H' W C m (R.mono s) fr (sm.trans s)⟩
  | ok b =>
   cases b with
   | true =>
    have h' : ro = some o := h
    exact (z3q C (h1 o h') q1E).weak λ Dn σ H ⟨H0, O, W, R, fr, fo, sm, k⟩ => ⟨O, W, R, λ H1 s1 => iteT ⟨H0, O, W, R.mono s1, fr, fo, sm.trans s1, k⟩⟩
   | false =>
    have h' : rp = some o := h
    exact (z3q C q1E (h2 o h')).weak λ Dn σ H ⟨H0, O, W, R, fr, fo, sm, k⟩ => ⟨O, W, R, λ H1 s1 => iteF ⟨H0, O, W, R.mono s1, fr, fo, sm.trans s1, k⟩⟩
theorem z2c (ha : ∀ q, ra = some q -> PE X e (dE X.D E δ q)) (h : (Re.thnS δ ra λ d c => some (retD d c)) = some o) : PS X (.Return (some e) pos) (dS X.D E δ o) := by
 cases hra : ra with
 | none => rw [hra] at h; cases h
 | some q =>
  rw [hra] at h
  have A := ha q hra
  cases q with
  | ex c => cases h; exact (q6n A).weak λ Dn σ H ⟨H0, O, W, R, fr, fo, sm, k⟩ => ⟨O, W, R, q5u R fr sm k⟩
  | ok d cl =>
   have h2 : some (retD d cl) = some o := h
   cases h2
   by_cases hft : cl = .ft
   ·subst hft
    refine (q6n A).weak λ Dn σ H ⟨H0, O, W, R, fr, fo, sm, k⟩ => ⟨O, W, R, λ v H1 s1 g => (k : dEnd X.D E H0 O Dn (.rtt d)) v H1 (sm.trans s1) ?_⟩
    obtain ⟨t, ts, p, xs, ds, es, e1, e2, e0, e3, e4, e5, e6⟩ := g
    have up : Same (L2.wo (p :: (O ++ W)) H1) (L2.wo (p :: O) H1) := q0Q λ b hb => by rcases List.mem_cons.mp hb with z | z; exact List.mem_cons.mpr (.inl z); exact List.mem_cons_of_mem _ (List.mem_append_left _ z)
    exact ⟨t, ts, p, xs, ds, es, e1, e2, (q0Q q6e).tseq e0, sm.free e3, e4, e5.mono up, e6.mono up⟩
   have hrt : retD d cl = .rt d (frD d cl) := by cases cl <;> first | rfl | exact absurd rfl hft
   rw [hrt]
   refine (q6n A).weak λ Dn σ H ⟨H0, O, W, R, fr, fo, sm, k⟩ => ⟨O, W, R, λ v H1 s1 g => (k : dEnd X.D E H0 O Dn (.rt d (frD d cl))) v H1 (sm.trans s1) ?_⟩
   have hd := R.hid.mono s1
   cases hf : frD d cl with
   | false => exact g.weak hd
   | true =>
    unfold frD at hf
    split at hf
    ·obtain ⟨p, xs, ds, e1, e2, e3, e4, e5⟩ := g
     exact ⟨p, xs, ds, e1, e2, sm.free e3, e4, e5.mono (q0Q λ b hb => by rcases List.mem_cons.mp hb with z | z; exact List.mem_cons.mpr (.inl z); exact List.mem_cons_of_mem _ (List.mem_append_left _ z))⟩
    ·obtain ⟨a, xs, e1, e0, e2, e3⟩ := g
     exact ⟨a, xs, _, e1, rfl, fr a e0, q1o _ _ e2, e3.mono (q0Q λ b hb => by rcases List.mem_cons.mp hb with z | z; rw [z]; exact List.mem_append_right _ e0; exact List.mem_append_left _ z)⟩
    ·obtain ⟨p, xs, ds, e1, e2, _⟩ := g; cases e2
    ·exact absurd (g.all hd) q3y
    ·cases hf
theorem z0C : PS X (.Return none pos) (dS X.D E δ (.rt .non false)) := z2o.weak λ Dn σ H ⟨H0, O, W, R, fr, fo, sm, k⟩ => k .non H sm (q2x.mpr rfl : Rep X.D (L2.wo O H) .non .non)
theorem z1n : PS X (.Pass pos) (dS X.D E δ (.nx δ)) := z3L.weak λ Dn σ H ⟨H0, O, W, R, fr, fo, sm, k⟩ => k σ H W R fr sm
theorem q3w {v : Expr} {t : Option Expr} {l : Nat} {env : Env} (h : q4B v = false) : swapsWith v t l env = pure false := by
 cases v <;> first | rfl | cases h
theorem z3z (ha : ∀ q, ra = some q -> PE X e (dE X.D E δ q)) (hc : q4B e = false) (h : (Re.thnS δ ra λ _ _ => some (.nx δ)) = some o) : PS X (.Expr e pos) (dS X.D E δ o) := by
 cases hra : ra with
 | none => rw [hra] at h; cases h
 | some q =>
  rw [hra] at h
  have A := ha q hra
  cases q with
  | ex c => cases h; exact (q6P A (q3w hc)).weak λ Dn σ H ⟨H0, O, W, R, fr, fo, sm, k⟩ => ⟨O, W, R, q5u R fr sm k⟩
  | ok d cl => cases h; exact (q6P A (q3w hc)).weak λ Dn σ H ⟨H0, O, W, R, fr, fo, sm, k⟩ => ⟨O, W, R, λ v H1 s1 g => k σ H1 W (R.mono s1) fr (sm.trans s1)⟩
theorem q2e {O W : List Addr} {p b : Addr} : b ∈ O ++ p :: W ↔ b ∈ p :: (O ++ W) := by
 simp only [List.mem_append, List.mem_cons]
 constructor
 ·rintro (h | h | h)
  ·exact .inr (.inl h)
  ·exact .inl h
  ·exact .inr (.inr h)
 ·rintro (h | h | h)
  ·exact .inr (.inl h)
  ·exact .inl h
  ·exact .inr (.inr h)
theorem q0x {α : Type} {l : List α} {i j : Nat} {a b : α} (h : (l.set i a)[j]? = some b) (hn : a ≠ b) : j ≠ i := λ z => by
 subst z
 have hl : j < l.length := by
  have := (List.getElem?_eq_some_iff.mp h).1
  rw [List.length_set] at this; exact this
 rw [List.getElem?_set_self hl] at h
 exact hn (Option.some.inj h)
theorem q4I {α : Type} {l : List α} {i : Nat} {a b : α} (h : (l.set i a)[i]? = some b) : i < l.length /\ a = b := by
 have hl : i < l.length := by
  have := (List.getElem?_eq_some_iff.mp h).1
  rw [List.length_set] at this; exact this
 rw [List.getElem?_set_self hl] at h
 exact ⟨hl, Option.some.inj h⟩
theorem RSt.alloc {D : Dm} {H H' : Hp} {σ : St} {O W : List Addr} {p : Addr} {xs : List V} {ds : List DV} (R : RSt D H σ δ O W) (s : Same H H') (hp : H p = none) (hp' : H' p = some (.lst xs)) (r : RepL D (L2.wo (p :: (O ++ W)) H') ds xs) (i : Nat) :
  RSt D H' (σ.set i (some (.ref p))) (δ.set i (.own (.lst ds))) O (p :: W) := by
 have old : Same (L2.wo (O ++ W) H) (L2.wo (O ++ p :: W) H') := λ b o e => by
  obtain ⟨hb, e⟩ := q1e e
  have hbp : b ≠ p := q0t e hp
  rw [q0A (λ z => by rcases List.mem_cons.mp (q2e.mp z) with z | z; exact hbp z; exact hb z)]
  exact s b o e
 have eqv : Same (L2.wo (p :: (O ++ W)) H') (L2.wo (O ++ p :: W) H') := q0Q λ b hb => q2e.mp hb
 refine ⟨λ j d h => ?_, λ j ds' h => ?_, λ j k a d1 d2 h1 h2 e1 e2 => ?_, λ j d h => ?_, by rw [List.length_set, List.length_set]; exact R.len, ⟨λ a ha => ?_, Same.refl _, λ a ha => ?_, λ a ha => ?_⟩⟩
 ·have hj := q0x h (by intro z; cases z)
  rw [List.getElem?_set_ne (Ne.symm hj)] at h ⊢
  obtain ⟨v, e1, e2⟩ := R.val j d h
  exact ⟨v, e1, e2.mono old⟩
 ·by_cases hj : j = i
  ·subst hj
   obtain ⟨hl, e⟩ := q4I h
   cases e
   exact ⟨p, xs, ds, rfl, List.getElem?_set_self (by rw [R.len]; exact hl), List.mem_cons_self, hp', r.mono eqv⟩
  ·rw [List.getElem?_set_ne (Ne.symm hj)] at h ⊢
   obtain ⟨a, ys, ds1, e0, e1, e2, e3, e4⟩ := R.own j ds' h
   exact ⟨a, ys, ds1, e0, e1, List.mem_cons_of_mem _ e2, s _ _ e3, e4.mono old⟩
 ·have key : ∀ {j : Nat} {d1 : DV}, (δ.set i (.own (.lst ds)))[j]? = some (.own d1) -> (σ.set i (some (.ref p)))[j]? = some (some (V.ref a)) -> (j = i /\ a = p) \/ (j ≠ i /\ δ[j]? = some (.own d1) /\ σ[j]? = some (some (V.ref a)) /\ a ≠ p) := λ {j d1} h e => by
   by_cases hj : j = i
   ·subst hj
    obtain ⟨_, z⟩ := q4I e
    cases z
    exact .inl ⟨rfl, rfl⟩
   ·rw [List.getElem?_set_ne (Ne.symm hj)] at h e
    refine .inr ⟨hj, h, e, λ z => ?_⟩
    obtain ⟨a', ys, ds1, _, q1, _, q3, _⟩ := R.own j d1 h
    rw [e] at q1; cases q1
    rw [z, hp] at q3; cases q3
  rcases key h1 e1 with ⟨z1, z2⟩ | ⟨z1, z2, z3, z4⟩ <;> rcases key h2 e2 with ⟨y1, y2⟩ | ⟨y1, y2, y3, y4⟩
  ·rw [z1, y1]
  ·exact absurd z2 y4
  ·exact absurd y2 z4
  ·exact R.inj j k a d1 d2 z2 y2 z3 y3
 ·have hj := q0x h (by intro z; cases z)
  rw [List.getElem?_set_ne (Ne.symm hj)] at h ⊢
  obtain ⟨⟨t, ts, p1, ys, ds1, es, e0, e1, e2, e3, e4, e5, e6, e7⟩, u⟩ := R.ot j d h
  refine ⟨⟨t, ts, p1, ys, ds1, es, e0, e1, old.tseq e2, List.mem_cons_of_mem _ e3, s _ _ e4, e5.mono old, e6.mono old, λ k d2 q => ?_⟩, λ k d2 q => ?_⟩
  ·by_cases hk : k = i
   ·subst hk
    intro z
    obtain ⟨_, z⟩ := q4I z
    cases z
    rw [hp] at e4
    cases e4
   ·rw [List.getElem?_set_ne (Ne.symm hk)] at q ⊢
    exact e7 k d2 q
  ·have hk := q0x q (by intro z; cases z)
   rw [List.getElem?_set_ne (Ne.symm hk)] at q
   exact u k d2 q
 ·rcases List.mem_cons.mp (q2e.mp ha) with z | z
  ·rw [z, hp']; intro q; cases q
  ·intro q; exact R.hid.ot a z (s.free q)
 ·rcases List.mem_cons.mp ha with z | z
  ·exact ⟨xs, by rw [z]; exact hp'⟩
  ·obtain ⟨ys, q⟩ := R.hid.wl a z; exact ⟨ys, s _ _ q⟩
 ·rcases List.mem_cons.mp ha with z | z
  ·intro q; exact R.hid.ot p (List.mem_append_left _ (by rw [← z]; exact q)) hp
  ·exact R.hid.dj a z
theorem q8Q {i : Nat} {δ : List Sv} (h : noOt i δ = true) {j : Nat} {d : DV} (q : δ[j]? = some (.ot d)) : j = i := by
 unfold noOt at h
 rw [List.all_eq_true] at h
 have hj : j < δ.length := (List.getElem?_eq_some_iff.mp q).1
 have := h j (List.mem_range.mpr hj)
 rw [q] at this
 simpa using this
theorem RSt.allocT {D : Dm} {H H' : Hp} {σ : St} {O W : List Addr} {t p : Addr} {ts xs : List V} {ds es : List DV} (R : RSt D H σ δ O W) (s : Same H H') (ht : SqT D.K (L2.wo (O ++ W) H') t (.ref p :: ts)) (hp : H p = none) (hp' : H' p = some (.lst xs)) (r : RepL D (L2.wo (p :: (O ++ W)) H') ds xs) (r2 : RepL D (L2.wo (p :: (O ++ W)) H') es ts) (i : Nat) (hno : noOt i δ = true) :
  RSt D H' (σ.set i (some (.ref t))) (δ.set i (.ot (.tup (.lst ds :: es)))) O (p :: W) := by
 have old : Same (L2.wo (O ++ W) H) (L2.wo (O ++ p :: W) H') := λ b o e => by
  obtain ⟨hb, e⟩ := q1e e
  have hbp : b ≠ p := q0t e hp
  rw [q0A (λ z => by rcases List.mem_cons.mp (q2e.mp z) with z | z; exact hbp z; exact hb z)]
  exact s b o e
 have eqv : Same (L2.wo (p :: (O ++ W)) H') (L2.wo (O ++ p :: W) H') := q0Q λ b hb => q2e.mp hb
 have ht' : SqT D.K (L2.wo (O ++ p :: W) H') t (.ref p :: ts) := by
  have ne : ∀ {o : HO}, L2.wo (O ++ W) H' t = some o -> (∀ ys, o ≠ .lst ys) -> L2.wo (O ++ p :: W) H' t = some o := λ {o} e ho => by
   obtain ⟨hb, e⟩ := q1e e
   rw [q0A (λ z => by
    rcases List.mem_cons.mp (q2e.mp z) with z | z
    ·rw [z, hp'] at e; cases e; exact ho _ rfl
    ·exact hb z)]
   exact e
  rcases ht with (h | ⟨o, h⟩) | h
  ·exact .inl (.inl (ne h (by intro ys z; cases z)))
  ·exact .inl (.inr ⟨o, ne h (by intro ys z; cases z)⟩)
  ·exact .inr h
 refine ⟨λ j d h => ?_, λ j ds' h => ?_, λ j k a d1 d2 h1 h2 e1 e2 => ?_, λ j d h => ?_, by rw [List.length_set, List.length_set]; exact R.len, ⟨λ a ha => ?_, Same.refl _, λ a ha => ?_, λ a ha => ?_⟩⟩
 ·have hj := q0x h (by intro z; cases z)
  rw [List.getElem?_set_ne (Ne.symm hj)] at h ⊢
  obtain ⟨v, e1, e2⟩ := R.val j d h
  exact ⟨v, e1, e2.mono old⟩
 ·have hj := q0x h (by intro z; cases z)
  rw [List.getElem?_set_ne (Ne.symm hj)] at h ⊢
  obtain ⟨a, ys, ds1, e0, e1, e2, e3, e4⟩ := R.own j ds' h
  exact ⟨a, ys, ds1, e0, e1, List.mem_cons_of_mem _ e2, s _ _ e3, e4.mono old⟩
 ·have n1 := q0x h1 (by intro z; cases z)
  have n2 := q0x h2 (by intro z; cases z)
  rw [List.getElem?_set_ne (Ne.symm n1)] at h1 e1
  rw [List.getElem?_set_ne (Ne.symm n2)] at h2 e2
  exact R.inj j k a d1 d2 h1 h2 e1 e2
 ·have hj : j = i := by
   by_cases hj : j = i
   ·exact hj
   ·rw [List.getElem?_set_ne (Ne.symm hj)] at h
    exact q8Q hno h
  subst hj
  obtain ⟨hl, e⟩ := q4I h
  cases e
  refine ⟨⟨t, ts, p, xs, ds, es, rfl, List.getElem?_set_self (by rw [R.len]; exact hl), ht', List.mem_cons_self, hp', r.mono eqv, r2.mono eqv, λ k d2 q => ?_⟩, λ k d2 q => ?_⟩
  ·have hk := q0x q (by intro z; cases z)
   rw [List.getElem?_set_ne (Ne.symm hk)] at q ⊢
   intro z
   obtain ⟨a, ys, ds1, f0, f1, f2, f3, f4⟩ := R.own k d2 q
   rw [z] at f1
   cases f1
   rw [hp] at f3
   cases f3
  ·by_cases hk : k = j
   ·exact hk
   ·rw [List.getElem?_set_ne (Ne.symm hk)] at q
    exact q8Q hno q
 ·rcases List.mem_cons.mp (q2e.mp ha) with z | z
  ·rw [z, hp']; intro q; cases q
  ·intro q; exact R.hid.ot a z (s.free q)
 ·rcases List.mem_cons.mp ha with z | z
  ·exact ⟨xs, by rw [z]; exact hp'⟩
  ·obtain ⟨ys, q⟩ := R.hid.wl a z; exact ⟨ys, s _ _ q⟩
 ·rcases List.mem_cons.mp ha with z | z
  ·intro q; exact R.hid.ot p (List.mem_append_left _ (by rw [← z]; exact q)) hp
  ·exact R.hid.dj a z
theorem RSt.write {D : Dm} {H : Hp} {σ : St} {O W : List Addr} {a : Addr} {xs' : List V} {ds ds' : List DV} (R : RSt D H σ δ O W) (hi : δ[i]? = some (.own (.lst ds))) (ha : σ[i]? = some (some (.ref a))) (r : RepL D (L2.wo (O ++ W) H) ds' xs') :
  RSt D (upd H a (.lst xs')) σ (δ.set i (.own (.lst ds'))) O W := by
 obtain ⟨a', xs, ds0, e0, e1, e2, e3, e4⟩ := R.own i _ hi
 rw [ha] at e1; cases e1
 have old : Same (L2.wo (O ++ W) H) (L2.wo (O ++ W) (upd H a (.lst xs'))) := λ b o e => by
  obtain ⟨hb, e⟩ := q1e e
  rw [q0A hb, q0z λ z => hb (by rw [z]; exact List.mem_append_right _ e2)]
  exact e
 have hl : i < δ.length := (List.getElem?_eq_some_iff.mp hi).1
 refine ⟨λ j d h => ?_, λ j ds'' h => ?_, λ j k b d1 d2 h1 h2 q1 q2 => ?_, λ j d h => ?_, by rw [List.length_set]; exact R.len, ⟨λ b hb q => ?_, Same.refl _, λ b hb => ?_, R.hid.dj⟩⟩
 ·have hj := q0x h (by intro z; cases z)
  rw [List.getElem?_set_ne (Ne.symm hj)] at h
  obtain ⟨v, q1, q2⟩ := R.val j d h
  exact ⟨v, q1, q2.mono old⟩
 ·by_cases hj : j = i
  ·subst hj
   obtain ⟨_, e⟩ := q4I h
   cases e
   exact ⟨a, xs', ds', rfl, ha, e2, q1d, r.mono old⟩
  ·rw [List.getElem?_set_ne (Ne.symm hj)] at h
   obtain ⟨b, ys, ds1, q0, q1, q2, q3, q4⟩ := R.own j ds'' h
   refine ⟨b, ys, ds1, q0, q1, q2, ?_, q4.mono old⟩
   rw [q0z λ z => hj (R.inj j i a ds'' _ h hi (by rw [← z]; exact q1) ha)]
   exact q3
 ·have key : ∀ {j : Nat} {d1 : DV}, (δ.set i (.own (.lst ds')))[j]? = some (.own d1) -> ∃ d0, δ[j]? = some (.own d0) := λ {j d1} h => by
   by_cases hj : j = i
   ·subst hj; exact ⟨_, hi⟩
   ·rw [List.getElem?_set_ne (Ne.symm hj)] at h; exact ⟨d1, h⟩
  obtain ⟨d1', z1⟩ := key h1
  obtain ⟨d2', z2⟩ := key h2
  exact R.inj j k b d1' d2' z1 z2 q1 q2
 ·have hj := q0x h (by intro z; cases z)
  rw [List.getElem?_set_ne (Ne.symm hj)] at h
  obtain ⟨⟨t, ts, p1, ys, ds1, es, f0, f1, f2, f3, f4, f5, f6, f7⟩, u⟩ := R.ot j d h
  refine ⟨⟨t, ts, p1, ys, ds1, es, f0, f1, old.tseq f2, f3, ?_, f5.mono old, f6.mono old, λ k d2 q => ?_⟩, λ k d2 q => ?_⟩
  ·rw [q0z λ z => f7 i _ hi (by rw [z]; exact ha)]
   exact f4
  ·by_cases hk : k = i
   ·subst hk
    exact f7 k _ hi
   ·rw [List.getElem?_set_ne (Ne.symm hk)] at q
    exact f7 k d2 q
  ·have hk := q0x q (by intro z; cases z)
   rw [List.getElem?_set_ne (Ne.symm hk)] at q
   exact u k d2 q
 ·by_cases hba : b = a
  ·rw [hba, q1d] at q; cases q
  ·rw [q0z hba] at q; exact R.hid.ot b hb q
 ·by_cases hba : b = a
  ·exact ⟨xs', by rw [hba]; exact q1d⟩
  ·obtain ⟨ys, q⟩ := R.hid.wl b hb; exact ⟨ys, by rw [q0z hba]; exact q⟩
theorem q4O {H0 H : Hp} {a : Addr} {o : HO} (h : Same H0 H) (ha : H0 a = none) : Same H0 (upd H a o) := λ b u e => by
 rw [q0z (q0t e ha)]
 exact h b u e
theorem z1w {Dn : Ends} {σ : St} {H H0 : Hp} {O W : List Addr} {own : Bool} {d : DV} {cl : Cl} {D : Dm} (h : (if own then q4d i δ d cl else (if stro d cl then some (.nx (δ.set i (.val d))) else none)) = some o)
  (R : RSt D H σ δ O W) (fr : ∀ a ∈ W, H0 a = none) (sm : Same H0 H) (k : dEnd D E H0 O Dn o) : ∀ v H', Same H H' -> Got D O W H H' d cl v -> Dn.nx (σ.set i (some v)) H' := λ v H1 s1 g => by
 cases own with
 | true =>
  simp only [if_true] at h
  unfold q4d at h
  split at h
  ·cases h
   obtain ⟨p, xs, ds, e1, e2, e3, e4, e5⟩ := g
   subst e1 e2
   exact k _ H1 (p :: W) (R.alloc s1 e3 e4 e5 i) (λ a ha => by
    rcases List.mem_cons.mp ha with z | z
    ·rw [z]; exact sm.free e3
    ·exact fr a z) (sm.trans s1)
  ·split at h
   ·rename_i hno
    cases h
    obtain ⟨t, ts, p, xs, ds, es, e1, e2, e0, e3, e4, e5, e6⟩ := g
    subst e1 e2
    exact k _ H1 (p :: W) (R.allocT s1 e0 e3 e4 e5 e6 i hno) (λ a ha => by
     rcases List.mem_cons.mp ha with z | z
     ·rw [z]; exact sm.free e3
     ·exact fr a z) (sm.trans s1)
   ·cases h
  ·cases h
 | false =>
  simp only [Bool.false_eq_true, if_false] at h
  split at h
  ·rename_i m
   cases h
   exact k _ H1 W ((R.mono s1).setVal (g.stro (R.hid.mono s1) m) i) fr (sm.trans s1)
  ·cases h
theorem q9U {own : Bool} (hN : X.N.Nodup) (hi : X.N[i]? = some x) (hx : Loc X.env.scope x) (hf : X.fn x = true \/ X.env.scope.names.lookup x = some .local) (ha : ∀ q, ra = some q -> PE X e (dE X.D E δ q)) (hc : swapsWith e (some (.Name x pos')) pos.line X.env = pure false)
  (h : (Re.thnS δ ra λ d c => if own then q4d i δ d c else (if stro d c then some (.nx (δ.set i (.val d))) else none)) = some o) : PS X (.Assign [.Name x pos'] e pos) (dS X.D E δ o) := by
 cases hra : ra with
 | none => rw [hra] at h; cases h
 | some q =>
  rw [hra] at h
  have A := ha q hra
  cases q with
  | ex c => cases h; exact (z1L hN hi hx A hc hf).weak λ Dn σ H ⟨H0, O, W, R, fr, fo, sm, k⟩ => ⟨O, W, R, q5u R fr sm k⟩
  | ok d cl => exact (z1L hN hi hx A hc hf).weak λ Dn σ H ⟨H0, O, W, R, fr, fo, sm, k⟩ => ⟨O, W, R, z1w h R fr sm k⟩
theorem q6u {own : Bool} {tgE iter elt : Expr} {ifs : List Expr} {scope : Scope} {N' : List Str} {fr : List (Option Nat)} {tg : Tg} {re : Re} (S : CompScope X.N N' scope X.env.scope fr) (hc : X.calm = true) (hN : X.N.Nodup) (hi : X.N[i]? = some x) (hx : X.env.scope.names.lookup x = some .local)
  (P : q1x X E δ tgE iter ifs elt scope N' fr tg re) (hG : ∀ C cells s₂ H₂ fp, PG (q0v X scope N' C cells s₂ H₂ fp) tgE (gT X.K tg)) (hset : q2H iter = false) {cpos : Pos} (hsw : swapsWith (.ListComp elt [⟨tgE, iter, ifs, 0⟩] scope cpos) (some (.Name x pos')) pos.line X.env = pure true)
  (h : (Re.thnS δ (some re) λ d c => if own then q4d i δ d c else (if stro d c then some (.nx (δ.set i (.val d))) else none)) = some o) : PS X (.Assign [.Name x pos'] (.ListComp elt [⟨tgE, iter, ifs, 0⟩] scope cpos) pos) (dS X.D E δ o) := by
 obtain ⟨wi, tc, te, h1, h2, h3, h4⟩ := P
 refine (q7T S hc hN hi hx h1 hG h2 h3 hsw (q5f hset)).weak λ Dn σ H ⟨H0, O, W, R, fr, fo, sm, k⟩ => h4 σ H _ ⟨O, W, R, ?_⟩
 cases re with
 | ex c => cases h; exact q5u R fr sm k
 | ok d cl => exact z1w h R fr sm k
theorem q7O {apos cpos npos : Pos} (hv : PE X (.Name x npos) (tVar i)) (he : ∀ q, ra = some q -> PE X e (dE X.D E δ q)) (hs : q0p e = false) (hline : (apos.endLine == cpos.line) = true)
  (h : (match δ[i]? with
   | some (.own (.lst ds)) => Re.thnS δ ra λ d c => if stro d c /\ ds.length < mostLen then some (.nx (δ.set i (.own (.lst (ds ++ [d]))))) else none
   | _ => none) = some o) : PS X (.Expr (.Call (.Attribute (.Name x npos) "append" apos) [e] [] cpos) pos) (dS X.D E δ o) := by
 split at h
 ·rename_i ds hi
  have C := λ t (hA : PE X e t) => q6P (pos := pos) (z6p PySem.F.plainAttrs_list PySem.F.slot_list_append PySem.F.type_list_append q9K hv (q2a hA q4J (q0s hs)) rfl (by rw [q0s hs]; rfl) hline (q0s hs) rfl) rfl
  cases hra : ra with
  | none => rw [hra] at h; cases h
  | some q =>
   rw [hra] at h
   have A := he q hra
   cases q with
   | ex c =>
    cases h
    exact (C _ A).weak λ Dn σ H ⟨H0, O, W, R, fr, fo, sm, k⟩ => by
     obtain ⟨a, xs, ds0, e0, e1, e2, e3, e4⟩ := R.own i _ hi
     exact ⟨.ref a, e1, .inl ⟨rfl, xs, SqL.of e3⟩, O, W, R, q5u (Q := λ _ _ => False) R fr sm k⟩
   | ok d cl =>
    have h' : (if stro d cl /\ ds.length < mostLen then some (Out.nx (δ.set i (.own (.lst (ds ++ [d]))))) else none) = some o := h
    split at h'
    ·rename_i m
     cases h'
     exact (C _ A).weak λ Dn σ H ⟨H0, O, W, R, fr, fo, sm, k⟩ => by
      obtain ⟨a, xs, ds0, e0, e1, e2, e3, e4⟩ := R.own i _ hi
      cases e0
      refine ⟨.ref a, e1, .inl ⟨rfl, xs, SqL.of e3⟩, O, W, R, λ v H1 s1 g => ?_⟩
      have R1 := R.mono s1
      refine ⟨a, xs, v, rfl, rfl, s1 _ _ e3, by rw [e4.length]; exact Nat.lt_of_lt_of_le m.2 (by decide), ?_⟩
      exact k σ _ W (R1.write hi e1 ((e4.mono s1.wo).append (RepL.one (g.stro (R.hid.mono s1) m.1)))) fr (q4O (sm.trans s1) (fr a e2))
    ·cases h'
 ·cases h
theorem q9S {npos spos : Pos} {ix : Expr} {rb : Option Re} (hv : PE X (.Name x npos) (tVar i)) (he : ∀ q, ra = some q -> PE X e (dE X.D E δ q)) (hx : ∀ q, rb = some q -> PE X ix (dE X.D E δ q)) (hsl : q4i ix = false)
  (h : (match δ[i]? with
   | some (.own (.lst ds)) => Re.thnS δ ra λ d c => Re.thnS δ rb λ k _ => (match k with
    | .int k => (match q1g ds.length k with
     | some j => if stro d c then some (.nx (δ.set i (.own (.lst (ds.set j d))))) else none
     | none => none)
    | _ => none)
   | _ => none) = some o) : PS X (.Assign [.Subscript (.Name x npos) ix spos] e pos) (dS X.D E δ o) := by
 have sub : ∀ v, assign (.Subscript (.Name x npos) ix spos) X.env v = (do
   let ov ← holding [v] (eval (.Name x npos) X.env)
   let iv ← holding [v, ov] (eval ix X.env)
   standAt spos
   holding [v, ov, iv] (setItem ov iv v)
   release [v, ov, iv] []) := by cases ix <;> first | (intro _; rfl) | cases hsl
 have C := λ t tk (hA : PE X e t) (hK : PE X ix tk) => z5s (pos := pos) hA (z4W hv hK z1g sub) (by cases e <;> rfl) (by cases e <;> rfl) rfl
 split at h
 ·rename_i ds hi
  cases hra : ra with
  | none => rw [hra] at h; cases h
  | some q =>
   rw [hra] at h
   have A := he q hra
   cases q with
   | ex c =>
    cases h
    exact (C _ _ A q1i).weak λ Dn σ H ⟨H0, O, W, R, fr, fo, sm, k⟩ => ⟨O, W, R, q5u (Q := λ _ _ => False) R fr sm k⟩
   | ok d cl =>
    cases hrb : rb with
    | none => rw [hrb] at h; cases h
    | some q =>
     rw [hrb] at h
     have B := hx q hrb
     cases q with
     | ex c =>
      cases h
      exact (C _ _ A B).weak λ Dn σ H ⟨H0, O, W, R, fr, fo, sm, k⟩ => ⟨O, W, R, λ v H1 s1 g => by
       have R1 := R.mono s1
       obtain ⟨a, xs, ds0, e0, e1, e2, e3, e4⟩ := R1.own i _ hi
       exact ⟨.ref a, e1, O, W, R1, q5u (Q := λ _ _ => False) R1 fr (sm.trans s1) k⟩⟩
     | ok dk ck =>
      have h' : (match (generalizing := false) dk with
       | .int k => (match q1g ds.length k with
        | some j => if stro d cl then some (Out.nx (δ.set i (.own (.lst (ds.set j d))))) else none
        | none => none)
       | _ => none) = some o := h
      split at h'
      ·rename_i k0
       split at h'
       ·rename_i j hj
        split at h'
        ·rename_i m
         cases h'
         exact (C _ _ A B).weak λ Dn σ H ⟨H0, O, W, R, fr, fo, sm, k⟩ => ⟨O, W, R, λ v H1 s1 g => by
          have R1 := R.mono s1
          obtain ⟨a, xs, ds0, e0, e1, e2, e3, e4⟩ := R1.own i _ hi
          cases e0
          refine ⟨.ref a, e1, O, W, R1, λ y H2 s2 g2 => ?_⟩
          have R2 := R1.mono s2
          refine ⟨a, xs, k0, j, rfl, g2.int (R1.hid.mono s2), s2 _ _ e3, by rw [e4.length]; exact hj, ?_⟩
          exact k σ _ W (R2.write hi e1 (RepL.set ((g.mono s2).stro ((R.hid.mono s1).mono s2) m) j (e4.mono s2.wo))) fr (q4O ((sm.trans s1).trans s2) (fr a e2))⟩
        ·cases h'
       ·cases h'
      ·cases h'
 ·cases h
theorem RSt.freeze {D : Dm} {H : Hp} {σ : St} {O W : List Addr} {d : DV} (R : RSt D H σ δ O W) (hi : δ[i]? = some (.own d)) : ∃ W', (∀ a ∈ W', a ∈ W) /\ RSt D H σ (δ.set i (.val d)) O W' := by
 obtain ⟨a, xs, ds, e0, e1, e2, e3, e4⟩ := R.own i d hi
 subst e0
 have hl : i < δ.length := (List.getElem?_eq_some_iff.mp hi).1
 have sub : ∀ b ∈ O ++ W.filter (λ b => decide (b ≠ a)), b ∈ O ++ W := λ b hb => by
  rcases List.mem_append.mp hb with z | z
  ·exact List.mem_append_left _ z
  ·exact List.mem_append_right _ (List.mem_filter.mp z).1
 have hao : a ∉ O ++ W.filter (λ b => decide (b ≠ a)) := λ z => by
  rcases List.mem_append.mp z with z | z
  ·exact R.hid.dj a e2 z
  ·exact absurd rfl (of_decide_eq_true (List.mem_filter.mp z).2)
 refine ⟨W.filter λ b => decide (b ≠ a), λ b hb => (List.mem_filter.mp hb).1, ⟨λ j d h => ?_, λ j ds' h => ?_, λ j k b d1 d2 h1 h2 q1 q2 => ?_, λ j d h => ?_, by rw [List.length_set]; exact R.len,
  ⟨λ b hb => R.hid.ot b (sub b hb), Same.refl _, λ b hb => R.hid.wl b (List.mem_filter.mp hb).1, λ b hb => R.hid.dj b (List.mem_filter.mp hb).1⟩⟩⟩
 ·by_cases hj : j = i
  ·subst hj
   obtain ⟨_, e⟩ := q4I h
   cases e
   exact ⟨.ref a, e1, q0L.mpr ⟨a, xs, rfl, by rw [q0A hao]; exact e3, e4.mono (q0Q sub)⟩⟩
  ·rw [List.getElem?_set_ne (Ne.symm hj)] at h
   obtain ⟨v, q1, q2⟩ := R.val j d h
   exact ⟨v, q1, q2.mono (q0Q sub)⟩
 ·have hj := q0x h (by intro z; cases z)
  rw [List.getElem?_set_ne (Ne.symm hj)] at h
  obtain ⟨b, ys, ds1, q0, q1, q2, q3, q4⟩ := R.own j ds' h
  refine ⟨b, ys, ds1, q0, q1, List.mem_filter.mpr ⟨q2, decide_eq_true λ z => hj (R.inj j i a ds' _ h hi (by rw [← z]; exact q1) e1)⟩, q3, q4.mono (q0Q sub)⟩
 ·have n1 := q0x h1 (by intro z; cases z)
  have n2 := q0x h2 (by intro z; cases z)
  rw [List.getElem?_set_ne (Ne.symm n1)] at h1
  rw [List.getElem?_set_ne (Ne.symm n2)] at h2
  exact R.inj j k b d1 d2 h1 h2 q1 q2
 ·have hj := q0x h (by intro z; cases z)
  rw [List.getElem?_set_ne (Ne.symm hj)] at h
  obtain ⟨⟨t, ts, p1, ys, ds1, es, f0, f1, f2, f3, f4, f5, f6, f7⟩, u⟩ := R.ot j d h
  refine ⟨⟨t, ts, p1, ys, ds1, es, f0, f1, (q0Q sub).tseq f2, List.mem_filter.mpr ⟨f3, decide_eq_true λ z => f7 i _ hi (by rw [z]; exact e1)⟩, f4, f5.mono (q0Q sub), f6.mono (q0Q sub), λ k d2 q => ?_⟩, λ k d2 q => ?_⟩
  ·have hk := q0x q (by intro z; cases z)
   rw [List.getElem?_set_ne (Ne.symm hk)] at q
   exact f7 k d2 q
  ·have hk := q0x q (by intro z; cases z)
   rw [List.getElem?_set_ne (Ne.symm hk)] at q
   exact u k d2 q
theorem q7Y {d : DV} (hi : δ[i]? = some (.own d)) (h : PSs X rest (dS X.D E (δ.set i (.val d)) o)) : PSs X rest (dS X.D E δ o) := h.weak λ Dn σ H ⟨H0, O, W, R, fr, fo, sm, k⟩ => by
 obtain ⟨W', hs, R'⟩ := R.freeze hi
 exact ⟨H0, O, W', R', λ a ha => fr a (hs a ha), fo, sm, k⟩
end
end L2
end
section
namespace L2
open PySem PySem.Spec PyProof.Rows
section
variable {X : Cx} {E : St -> XK} {δ δ1 : List Sv} {o : Out} {e c : Expr} {pos pos' : Pos} {ra : Option Re} {i : Nat} {x : Str}
theorem z0L {es : List Expr} {kk : Nat} {tp : Pos} {rs : Option Rs} (ha : ∀ q, rs = some q -> PA X es (dA X.D E δ q)) (h : (Rs.thnS δ rs λ l => q9o l) = some o) : PS X (.Return (some (.Tuple es kk tp)) pos) (dS X.D E δ o) := by
 cases hrs : rs with
 | none => rw [hrs] at h; cases h
 | some q =>
  rw [hrs] at h
  have A := ha q hrs
  cases q with
  | ex c => cases h; exact (q6n (q8J A)).weak λ Dn σ H ⟨H0, O, W, R, fr, fo, sm, k⟩ => ⟨O, W, R, q5u (Q := λ _ _ => False) R fr sm k⟩
  | ok l =>
   have h' : q9o l = some o := h
   unfold q9o at h'
   split at h'
   ·rename_i ds l'
    split at h'
    ·rename_i hb
     cases h'
     refine (q6n (q8J A)).weak λ Dn σ H ⟨H0, O, W, R, fr, fo, sm, k⟩ => ⟨O, W, R, λ vs H1 s1 g => ?_⟩
     have hd := R.hid.mono s1
     cases g with
     | cons g0 g1 =>
      rename_i v vs
      obtain ⟨a, xs, e1, e0, e2, e3⟩ := g0
      have r1 := g1.stros hd hb.2
      subst e1
      refine ⟨?_, λ q hq => ?_⟩
      ·rw [List.length_cons, g1.length]
       exact Nat.le_trans hb.1 (by decide)
      ·have hqo : q ∉ O := λ z => hd.ot q (List.mem_append_left _ z) (s1.free hq)
       have ha1 : H1 a = some (.lst xs) := q1o _ _ e2
       have up : ∀ {Z : List Addr}, Same (L2.wo Z H1) (L2.wo Z (upd H1 q (.tup (.ref a :: vs)))) := λ {Z} => (q0o hq).wo
       have sub : Same (L2.wo (O ++ W) H1) (L2.wo (a :: O) H1) := q0Q λ b hb => by
        rcases List.mem_cons.mp hb with z | z
        ·rw [z]; exact List.mem_append_right _ e0
        ·exact List.mem_append_left _ z
       refine (k : dEnd X.D E H0 O Dn (.rtt (.tup (.lst ds :: l'.map (·.1))))) (.ref q) _ ((sm.trans s1).trans (q0o hq)) ⟨q, vs, a, xs, ds, _, rfl, rfl, SqT.of (by rw [q0A hqo]; exact q1d), fr a e0, q0o hq _ _ ha1, (e3.mono sub).mono up, (r1.mono sub).mono up⟩
    ·cases h'
   ·cases h'
end
end L2
end
section
namespace L2
open PySem PySem.Spec PyProof.Rows
theorem PSs.any {X : Cx} {body : List Stmt} {ι : Sort _} {t : ι -> TS} (h : ∀ k, PSs X body (t k)) : PSs X body (λ D σ H => ∃ k, t k D σ H) := λ pins s σ H D I ⟨k, q⟩ => h k pins s σ H D I q
theorem PT.any {X : Cx} {e : Expr} {ι : Sort _} {t : ι -> TT} (h : ∀ k, PT X e (t k)) : PT X e (λ σ H Q => ∃ k, t k σ H Q) := λ pins s σ H Q I ⟨k, q⟩ => h k pins s σ H Q I q
structure Lp (H0 H1 : Hp) (O W : List Addr) : Prop where
 out : ∀ {H : Hp}, Same (L2.wo W H1) H -> Same H0 H
 outW : ∀ {a : Addr}, L2.wo W H1 a = none -> H0 a = none
 in1 : ∀ a ∈ W, L2.wo W H1 a = none
 in2 : ∀ a ∈ O, L2.wo W H1 a ≠ none
 wsame : ∀ {H : Hp}, Same (L2.wo W H1) H -> Same (L2.wo (O ++ W) H1) (L2.wo (O ++ W) H)
theorem Lp.mk' {H0 H1 : Hp} {O W : List Addr} (fr : ∀ a ∈ W, H0 a = none) (fo : ∀ a ∈ O, H0 a ≠ none) (sm : Same H0 H1) : Lp H0 H1 O W where
 out := λ {H} s b u e => s b u (by
  rw [q0A λ z => by rw [fr b z] at e; cases e]
  exact sm b u e)
 outW := λ {a} q => by
  by_cases z : a ∈ W
  ·exact fr a z
  ·rw [q0A z] at q; exact sm.free q
 in1 := λ a ha => z5u ha
 in2 := λ a ha => by
  rw [q0A λ z => fo a ha (fr a z)]
  intro q
  exact fo a ha (sm.free q)
 wsame := λ {H} s b u e => by
  obtain ⟨hb, e⟩ := q1e e
  rw [q0A hb]
  exact s b u (by rw [q0A λ z => hb (List.mem_append_right _ z)]; exact e)
theorem Lp.gotR {H0 H1 : Hp} {O W : List Addr} {D : Dm} {H : Hp} {d : DV} {fr : Bool} {v : V} (L : Lp H0 H1 O W) (g : GotR D O (L2.wo W H1) H d fr v) : GotR D O H0 H d fr v := by
 cases fr with
 | false => exact g
 | true =>
  obtain ⟨p, xs, ds, e1, e2, e3, e4, e5⟩ := g
  exact ⟨p, xs, ds, e1, e2, L.outW e3, e4, e5⟩
theorem Lp.gotT {H0 H1 : Hp} {O W : List Addr} {D : Dm} {H : Hp} {d : DV} {v : V} (L : Lp H0 H1 O W) (g : GotT D O (L2.wo W H1) H d v) : GotT D O H0 H d v := by
 obtain ⟨t, ts, p, xs, ds, es, e1, e2, e0, e3, e4, e5, e6⟩ := g
 exact ⟨t, ts, p, xs, ds, es, e1, e2, e0, L.outW e3, e4, e5, e6⟩
section
variable {X : Cx} {E : St -> XK} {δ : List Sv} {tgE iter c : Expr} {body : List Stmt} {o : Out} {pos : Pos} {tg : Tg} {ri : Option Ri} {evB : List Sv -> Option Out} {evC : List Sv -> Option Rt}
theorem z2D (hp : PassesOwn (model X.prog X.w) X.A X.env X.xe) (hc : X.calm = true) (hi : ∀ q, ri = some q -> PI X tgE iter (dI X.D E δ q)) (hG : PG X tgE (gT X.K tg)) (hb : ∀ δ' o, evB δ' = some o -> PSs X body (dS X.D E δ' o)) (hset : q2H iter = false)
  (h : (Ri.thnS δ ri λ ds c => if c = .strong \/ c = .fresh then q1q tg evB ds δ else none) = some o) : PS X (.For tgE iter body [] pos) (dS X.D E δ o) := by
 have B : PSs X body (λ D σ H => ∃ k : { p : List Sv × Out // evB p.1 = some p.2 }, dS X.D E k.1.1 k.1.2 D σ H) := PSs.any λ k => hb k.1.1 k.1.2 k.2
 cases hri : ri with
 | none => rw [hri] at h; cases h
 | some q =>
  rw [hri] at h
  have A := hi q hri
  cases q with
  | ex c => cases h; exact (z1T hp hc A hG B (q5f hset)).weak λ Dn σ H ⟨H0, O, W, R, fr, fo, sm, k⟩ => ⟨O, W, R, λ H' C m s => k σ H' W C m (R.mono s) fr (sm.trans s)⟩
  | ok ds c =>
   have h' : (if c = .strong \/ c = .fresh then q1q tg evB ds δ else none) = some o := h
   split at h'
   ·rename_i m
    refine (z1T hp hc A hG B (q5f hset)).weak λ Dn σ H ⟨H0, O, W, R, fr, fo, sm, k⟩ => ⟨O, W, R, λ J H1 s1 w => ?_⟩
    have R1 := R.mono s1
    have L := Lp.mk' fr fo (sm.trans s1)
    have w : Wk X.D J ds (O ++ W) (O ++ W) H1 := by
     rcases m with m | m <;> subst m <;> exact w
    refine ⟨λ i n σ H => n = ds.length - i /\ i <= ds.length /\ ∃ δi W', q1q tg evB (ds.drop i) δi = some o /\ RSt X.D H σ δi O W' /\ (∀ a ∈ W', L2.wo W H1 a = none) /\ Same (L2.wo W H1) H,
     ⟨ds.length, rfl, Nat.zero_le _, δ, W, h', R1, L.in1, q1o⟩, ?_⟩
    rintro i n σ2 H2 ⟨rfl, hi, δi, W2, hgo, R2, b1, b2⟩
    by_cases hlt : i < ds.length
    ·refine .inr ⟨w.go i H2 (L.wsame b2) hlt, λ σ H => ∃ δi W', q1q tg evB (ds.drop (i + 1)) δi = some o /\ RSt X.D H σ δi O W' /\ (∀ a ∈ W', L2.wo W H1 a = none) /\ Same (L2.wo W H1) H,
      λ σ' H' q => ⟨ds.length - (i + 1), by omega, rfl, hlt, q⟩, λ x H3 y => ?_⟩
     have y1 := w.same i H2 x H3 y
     have y3 : Rep X.D (L2.wo (O ++ W2) H3) ds[i] x := w.yld i H2 x H3 _ (O ++ W2) (L.wsame b2) (L.wsame b2) y (List.getElem?_eq_getElem hlt) λ a ha => ⟨R2.hid.ot a ha, by
      rcases List.mem_append.mp ha with z | z
      ·exact .inl (List.mem_append_left _ z)
      ·have q := b1 a z
       by_cases hw : a ∈ W
       ·exact .inl (List.mem_append_right _ hw)
       ·rw [q0A hw] at q; exact .inr q⟩
     rw [List.drop_eq_getElem_cons hlt] at hgo
     unfold q1q at hgo
     split at hgo
     ·cases hgo
     ·rename_i δ1 hb1
      refine q6J (R2.mono y1) y3 hb1 λ σ3 R3 => ?_
      split at hgo
      ·rename_i δ2 hev
       exact ⟨⟨⟨δ1, .nx δ2⟩, hev⟩, L2.wo W H1, O, W2, R3, b1, L.in2, b2.trans y1, λ σ' H' W' R' fr' sm' => ⟨δ2, W', hgo, R', fr', sm'⟩⟩
      ·rename_i hne
       refine ⟨⟨⟨δ1, o⟩, hgo⟩, L2.wo W H1, O, W2, R3, b1, L.in2, b2.trans y1, ?_⟩
       cases o with
       | nx δ2 => exact absurd hgo (hne δ2)
       | rt d fr' => exact λ v H' s' g => k v H' (L.out s') (L.gotR g)
       | rtt d => exact λ v H' s' g => k v H' (L.out s') (L.gotT g)
       | ex c' δ' => exact λ σ' H' W' C m R' fr' sm' => k σ' H' W' C m R' (λ a ha => L.outW (fr' a ha)) (L.out sm')
    ·have e : i = ds.length := by omega
     subst e
     rw [List.drop_length] at hgo
     cases hgo
     exact .inl ⟨w.stop H2 (L.wsame b2), k σ2 H2 W2 R2 (λ a ha => L.outW (b1 a ha)) (L.out b2)⟩
   ·cases h'
theorem q9O {n : Nat} (hp : PassesOwn (model X.prog X.w) X.A X.env X.xe) (hc : ∀ δ' r, evC δ' = some r -> PT X c (dT X.D E δ' r)) (hb : ∀ δ' o, evB δ' = some o -> PSs X body (dS X.D E δ' o)) (h : q1l evC evB n δ = some o) : PS X (.While c body [] pos) (dS X.D E δ o) := by
 have B : PSs X body (λ D σ H => ∃ k : { p : List Sv × Out // evB p.1 = some p.2 }, dS X.D E k.1.1 k.1.2 D σ H) := PSs.any λ k => hb k.1.1 k.1.2 k.2
 have T : PT X c (λ σ H Q => ∃ k : { p : List Sv × Rt // evC p.1 = some p.2 }, dT X.D E k.1.1 k.1.2 σ H Q) := PT.any λ k => hc k.1.1 k.1.2 k.2
 refine (z0B hp T B).weak λ Dn σ H ⟨H0, O, W, R, fr, fo, sm, k⟩ => ?_
 have L := Lp.mk' fr fo sm
 refine ⟨λ m σ H2 => ∃ δi W', q1l evC evB m δi = some o /\ RSt X.D H2 σ δi O W' /\ (∀ a ∈ W', L2.wo W H a = none) /\ Same (L2.wo W H) H2, ⟨n, δ, W, h, R, L.in1, q1o⟩, ?_⟩
 rintro m σ2 H2 ⟨δi, W2, hgo, R2, b1, b2⟩
 cases m with
 | zero => cases hgo
 | succ m =>
  unfold q1l at hgo
  split at hgo
  ·cases hgo
  ·rename_i c' hev
   cases hgo
   exact ⟨⟨⟨δi, .ex c'⟩, hev⟩, O, W2, R2, λ H' C m s => k σ2 H' W2 C m (R2.mono s) (λ a ha => L.outW (b1 a ha)) (L.out (b2.trans s))⟩
  ·rename_i hev
   cases hgo
   refine ⟨⟨⟨δi, .ok false⟩, hev⟩, O, W2, R2, λ H' s => iteF ?_⟩
   exact k σ2 H' W2 (R2.mono s) (λ a ha => L.outW (b1 a ha)) (L.out (b2.trans s))
  ·rename_i hev
   refine ⟨⟨⟨δi, .ok true⟩, hev⟩, O, W2, R2, λ H' s => iteT ?_⟩
   refine ⟨λ σ H2 => ∃ δi W', q1l evC evB m δi = some o /\ RSt X.D H2 σ δi O W' /\ (∀ a ∈ W', L2.wo W H a = none) /\ Same (L2.wo W H) H2, λ σ' H' q => ⟨m, Nat.lt_succ_self m, q⟩, ?_⟩
   split at hgo
   ·rename_i δ2 hev2
    exact ⟨⟨⟨δi, .nx δ2⟩, hev2⟩, L2.wo W H, O, W2, R2.mono s, b1, L.in2, b2.trans s, λ σ' H' W' R' fr' sm' => ⟨δ2, W', hgo, R', fr', sm'⟩⟩
   ·rename_i hne
    refine ⟨⟨⟨δi, o⟩, hgo⟩, L2.wo W H, O, W2, R2.mono s, b1, L.in2, b2.trans s, ?_⟩
    cases o with
    | nx δ2 => exact absurd hgo (hne δ2)
    | rt d fr' => exact λ v H' s' g => k v H' (L.out s') (L.gotR g)
    | rtt d => exact λ v H' s' g => k v H' (L.out s') (L.gotT g)
    | ex c' δ' => exact λ σ' H' W' C m R' fr' sm' => k σ' H' W' C m R' (λ a ha => L.outW (fr' a ha)) (L.out sm')
end
end L2
end
section
namespace L2
open PySem PySem.Spec PyProof.Rows
noncomputable def z4R (K : PySem.W.Frag) (C : Addr) : Prop := ∃ B newId initId bmB, ExcBaseFacts B newId initId bmB /\ PySem.W.excIn K C bmB newId = true
structure XOne (K : PySem.W.Frag) (mg : Str -> Option Value) (G : Gs) (cl : List Str) (c : Str) (C : Addr) : Prop where
 mc : mg c = some (.ref C)
 ck : ClsK K C
 rk : z4R K C
 own : ∀ t ∈ cl, ∀ Ct, mg t = some (.ref Ct) -> PySem.W.kitOne K (.ref C) (.ref Ct) = some (q2T G c t) /\ (q2T G c t = true -> PySem.W.exmOne K (.ref C) (.ref Ct) = some true)
 blt : PySem.W.kitOne K (.ref C) (.type "ValueError") = some (q2T G c "ValueError")
structure XFacts (K : PySem.W.Frag) (mg : Str -> Option Value) (G : Gs) (cl : List Str) : Prop where
 one : ∀ c, (G.cls.lookup c).isSome = true -> ∃ C, XOne K mg G cl c C
 all : ∀ t ∈ cl, ∃ Ct, mg t = some (.ref Ct)
section
variable {X : Cx} {E : St -> XK} {δ : List Sv} {e : Expr} {pos p p' : Pos} {re : Re} {ra : Option Re} {G : Gs} {cl : List Str} {t : Str} {o : Out}
theorem q9t {c : Str} {np cpos : Pos} (F : XFacts X.K X.mg G cl) (hc : X.calm = true) (hg : Gl X c) (hd : (c == ("__debug__" : Str)) = false) (hR : q3K X E) (ha : ∀ q, ra = some q -> PE X e (dE X.D E δ q)) (hs : q0p e = false)
  (h : (if (G.cls.lookup c).isSome then Re.thnS δ ra λ _ _ => some (.ex c δ) else none) = some o) : PS X (.Raise (some (.Call (.Name c np) [e] [] cpos)) none pos) (dS X.D E δ o) := by
 split at h
 ·rename_i hc'
  obtain ⟨C, x⟩ := F.one c hc'
  obtain ⟨B, newId, initId, bmB, FB, hx⟩ := x.rk
  cases hra : ra with
  | none => rw [hra] at h; cases h
  | some q =>
   rw [hra] at h
   have A := ha q hra
   have P := z0j (np := np) (cpos := cpos) (pos := pos) FB hc hg x.mc hx hR (q2a A q4J (q0s hs)) hd (q0s hs) rfl
   cases q with
   | ex c2 => cases h; exact P.weak λ Dn σ H ⟨H0, O, W, R, fr, fo, sm, k⟩ => ⟨O, W, R, q5u R fr sm k⟩
   | ok d dc => cases h; exact P.weak λ Dn σ H ⟨H0, O, W, R, fr, fo, sm, k⟩ => ⟨O, W, R, λ v H1 s1 g => ⟨by show 1 <= sizeLine; decide, k σ H1 W _ x.mc (R.mono s1) fr (sm.trans s1)⟩⟩
 ·cases h
end
end L2
end
section
namespace L2
open PySem PySem.Spec PyProof.Rows
noncomputable def q9M (K : PySem.W.Frag) (w : World) (mg : Str -> Option Value) (x : Str) (kvs : List (Str × Str)) : Prop :=
 ∃ a es n, mg x = some (.ref a) /\ K.lookup a = some ⟨.type "dict", none, .dict es n, #[]⟩ /\ PySem.W.KeysLit w.params es.toList /\ ∀ k v, kvs.lookup k = some v -> v.length <= sizeLine /\ ∃ t, PySem.W.nsIn K a k = some (some (.str v t))
noncomputable def rIxK (X : Cx) : R2 := λ x y H Q => ∃ (a : Addr) (es : Array DictEntry) (n : Nat) (k v : Str) (t : Tok), x = .ref a /\ y = .str k /\ X.K.lookup a = some ⟨.type "dict", none, .dict es n, #[]⟩ /\ PySem.W.KeysLit X.w.params es.toList /\ PySem.W.nsIn X.K a k = some (some (.str v t)) /\ Q (.str v) H
theorem ix_K {X : Cx} : IxR X (rIxK X) := by
 intro value slice pins s σ H x y v u Q I rx ry q hs
 obtain ⟨a, es, n, k, v', t, rfl, rfl, hl, hk, e, q⟩ := q
 cases rx
 obtain ⟨t', rfl⟩ := ry
 have hm := PySem.W.mapOf_K (prog := X.prog) (w := X.w) I.kIn hl hk
 exact tail_any hm.typeIs slot_dict_getitem.lookup (wpAny_getItem_of (strKind_is X.prog X.w k t') hm (PySem.W.find_K hl e) ⟨.str v', H, I.tok _, ⟨_, rfl⟩, q⟩) hs
structure Good (sg : Sg) (G : Gs) (F : Nat -> List DV -> Option Ou) (X : Cx) (E : St -> XK) : Prop where
 N : X.N = sg.N
 nd : X.N.Nodup
 vis : ∀ x, visB sg x = true -> Vis X.env.scope x
 glo : ∀ x, gloB sg x = true -> Gl X x
 loc : ∀ x, locB sg x = true -> Loc X.env.scope x /\ (X.fn x = true \/ X.env.scope.names.lookup x = some .local)
 lcl : ∀ x, sg.sc.lookup x = some .local -> X.env.scope.names.lookup x = some .local
 cel : ∀ x, (sg.sc.lookup x = some .cell \/ sg.sc.lookup x = some .free) -> X.env.scope.names.lookup x = some .cell \/ X.env.scope.names.lookup x = some .free
 calm : X.calm = true
 hu : X.A.units + 64 < cLine
 fns : ∀ f x, sg.fn[f]? = some x -> ∃ k fa fd ps, Room k X.A /\ X.mg x = some (.ref fa) /\ PySem.W.keepIn X.K (.ref fa) = true /\ q6m X.K fd ps [] /\ (∀ ds o, F f ds = some o -> ds.length = ps.length) /\
  FnOk X.prog X.w X.K X.mg X.base (CXx X.prog X.w X.base) k fa fd ps (spF X.D ps.length (F f))
 blt : ∀ x ∈ sg.bl, X.mg x = none
 pas : q4s (CXx X.prog X.w X.base) X E
 con : ∀ x d, G.con.lookup x = some d -> ∃ u v, X.mg x = some u /\ RelV v u /\ ∀ H, Rep X.D H d v
 own : sg.lp = true -> PassesOwn (model X.prog X.w) X.A X.env X.xe
 xf : XFacts X.K X.mg G sg.cl
 st : sg.top = true -> X.stack = X.env :: X.outer /\ X.env.frame = some X.env.locals /\ X.ex = [] /\ q3K X E
 dcs : ∀ x kvs, G.dcs.lookup x = some kvs -> q9M X.K X.w X.mg x kvs
theorem q2v : ∀ {l : List Str}, q4D l = true -> l.Nodup
 | [], _ => List.nodup_nil
 | x :: r, h => by
  unfold q4D at h
  rw [Bool.and_eq_true] at h
  refine List.nodup_cons.mpr ⟨λ z => ?_, q2v h.2⟩
  have := h.1
  rw [List.contains_iff_mem.mpr z] at this
  cases this
section
variable {sg : Sg} {G : Gs} {F : Nat -> List DV -> Option Ou} {X : Cx} {E : St -> XK} {tg : Tg} {sc : Scope} {N' : List Str} {fr : List (Option Nat)}
theorem q1G (g : Good sg G F X E) (h : q2S sg N' fr sc tg = true) : CompScope X.N N' sc X.env.scope fr /\ (∀ (j k i : Nat), fr[j]? = some (some i) -> fr[k]? = some (some i) -> j = k) /\ ∀ i ∈ q2R tg, fr[i]? = some none := by
 unfold q2S at h
 simp only [Bool.and_eq_true, List.all_eq_true, beq_iff_eq] at h
 obtain ⟨⟨⟨⟨⟨⟨h0, h1⟩, h2⟩, h3⟩, h4⟩, h5⟩, h6⟩ := h
 have h5' : ∀ (j i : Nat), fr[j]? = some (some i) -> ∃ x, N'[j]? = some x /\ sg.N[i]? = some x /\ (x, NameKind.free) ∈ sc.names := λ j i e => by
  have hj : j < fr.length := (List.getElem?_eq_some_iff.mp e).1
  have hj' : j < N'.length := by rw [← h4]; exact hj
  have hz : (some i, N'[j]) ∈ fr.zip N' := by
   refine List.mem_of_getElem? (i := j) ?_
   rw [List.getElem?_zip_eq_some]
   exact ⟨e, List.getElem?_eq_getElem hj'⟩
  have q := h5 _ hz
  simp only [Bool.and_eq_true, beq_iff_eq, List.contains_iff_mem] at q
  exact ⟨_, List.getElem?_eq_getElem hj', q.1, q.2⟩
 refine ⟨⟨h1, q2v h2, q2v h3, h4, λ j i e => ?_, λ y hy hk => ?_⟩, λ j k i e1 e2 => ?_, h0⟩
 ·obtain ⟨x, a, b, c⟩ := h5' j i e
  exact ⟨x, a, by rw [g.N]; exact b, c⟩
 ·have q := h6 y hy
  rw [if_pos hk] at q
  simp only [Bool.or_eq_true, beq_iff_eq] at q
  exact g.cel _ q
 ·obtain ⟨x, a, b, _⟩ := h5' j i e1
  obtain ⟨x', a', b', _⟩ := h5' k i e2
  rw [b] at b'; cases b'
  exact q5g (q2v h2) a a'
theorem q1H (g : Good sg G F X E) (h : q2S sg N' fr sc tg = true) (C : Addr) (cells : List (Str × Addr)) (s₂ : Shared) (H₂ : Hp) (fp : List Addr) : Good ⟨N', sc.names, sg.fn, sg.bl, sg.cl, false, true⟩ G F (q0v X sc N' C cells s₂ H₂ fp) E0s := by
 obtain ⟨S, _, _⟩ := q1G g h
 have look : ∀ x, (q0v X sc N' C cells s₂ H₂ fp).env.scope.names.lookup x = (sc.names.lookup x).map λ k => if (k == NameKind.free && X.env.scope.kind == .function && X.env.kindOf x == some .cell) = true then NameKind.cell else k := λ x => q1N
 have one : ∀ x k, sc.names.lookup x = some k -> k ≠ .free -> (q0v X sc N' C cells s₂ H₂ fp).env.scope.names.lookup x = some k := λ x k e hk => by
  rw [look, e, Option.map_some, if_neg]
  intro z
  simp only [Bool.and_eq_true, beq_iff_eq] at z
  exact hk z.1.1
 have two : ∀ x, sc.names.lookup x = some .free -> (q0v X sc N' C cells s₂ H₂ fp).env.scope.names.lookup x = some .cell \/ (q0v X sc N' C cells s₂ H₂ fp).env.scope.names.lookup x = some .free := λ x e => by
  rw [look, e, Option.map_some]
  split
  ·exact .inl rfl
  ·exact .inr rfl
 refine ⟨rfl, S.nd, λ x hx => ?_, λ x hx => ?_, λ x hx => ?_, λ x hx => one x _ hx (by intro z; cases z), λ x hx => ?_, g.calm, g.hu, g.fns, g.blt, ?_, g.con, λ _ => .never, g.xf, (λ z => nomatch z), g.dcs⟩
 ·unfold visB at hx
  simp only [Bool.or_eq_true, beq_iff_eq] at hx
  rcases hx with (hx | hx) | hx
  ·exact .inl (one x _ hx (by intro z; cases z))
  ·exact .inr (.inl (one x _ hx (by intro z; cases z)))
  ·exact .inr (two x hx)
 ·unfold gloB at hx
  rw [beq_iff_eq] at hx
  exact one x _ hx (by intro z; cases z)
 ·unfold locB at hx
  simp only [Bool.or_eq_true, beq_iff_eq] at hx
  rcases hx with hx | hx
  ·exact ⟨.inl (one x _ hx (by intro z; cases z)), .inr (one x _ hx (by intro z; cases z))⟩
  ·exact ⟨.inr (one x _ hx (by intro z; cases z)), .inl (by show (sc.names.lookup x == some .cell) = true; rw [hx]; rfl)⟩
 ·rcases hx with hx | hx
  ·exact .inl (one x _ hx (by intro z; cases z))
  ·exact two x hx
 ·intro pins σ H s e s' I z
  obtain ⟨_, _, _, _, _, _, _, _, _, _, q⟩ := z
  exact q.elim
theorem q6F (g : Good sg G F X E) {i : Nat} {x : Str} (h : q5R sg i x = true) : X.N[i]? = some x /\ Vis X.env.scope x /\ (x == ("__debug__" : Str)) = false /\ (x == ("__classdict__" : Str)) = false := by
 unfold q5R at h
 simp only [Bool.and_eq_true, beq_iff_eq, bne_iff_ne, ne_eq] at h
 obtain ⟨⟨⟨h1, h2⟩, h3⟩, h4⟩ := h
 exact ⟨by rw [g.N]; exact h1, g.vis x h2, beq_eq_false_iff_ne.mpr h3, beq_eq_false_iff_ne.mpr h4⟩
theorem q4C (g : Good sg G F X E) {x : Str} {f : Expr} (h : bltB sg x f = true) : (∃ p, f = .Name x p) /\ Gl X x /\ X.mg x = none := by
 unfold bltB at h
 simp only [Bool.and_eq_true, beq_iff_eq, List.contains_iff_mem] at h
 obtain ⟨⟨h1, h2⟩, h3⟩ := h
 exact ⟨q0G h1, g.glo x h2, g.blt x h3⟩
theorem q6o (g : Good sg G F X E) : ∀ (is : List Nat) (es : List Expr), es.length = is.length -> ((is.zip es).all λ p => match q0O p.2 with | some x => sg.N[p.1]? == some x && locB sg x | none => false) = true ->
  PGs X es (q6Y is) /\ (assignEach es X.env).length = is.length /\ (assignEach es X.env).findIdx? (·.1) = none
 | [], [], _, _ => ⟨z3H, rfl, rfl⟩
 | [], _ :: _, h, _ => by cases h
 | _ :: _, [], h, _ => by cases h
 | i :: is, e :: es, hl, h => by
  rw [List.zip_cons_cons, List.all_cons, Bool.and_eq_true] at h
  obtain ⟨h1, h2⟩ := h
  obtain ⟨A, B, C⟩ := q6o g is es (by simpa using hl) h2
  split at h1
  ·rename_i x q
   obtain ⟨p, rfl⟩ := q0G q
   simp only [Bool.and_eq_true, beq_iff_eq] at h1
   have l := g.loc x h1.2
   refine ⟨z0F (q9z g.nd (by rw [g.N]; exact h1.1) l.1 l.2) A rfl, ?_, ?_⟩
   ·show (assignEach es X.env).length + 1 = is.length + 1
    rw [B]
   ·show ((false, assign (.Name x p) X.env) :: assignEach es X.env).findIdx? (·.1) = none
    rw [List.findIdx?_cons, C]; rfl
  ·cases h1
theorem q8w (g : Good sg G F X E) {tgE : Expr} (h : tgOk sg tg tgE = true) : PG X tgE (gT X.K tg) := by
 cases tg with
 | one i =>
  unfold tgOk at h
  dsimp only at h
  split at h
  ·rename_i x q
   obtain ⟨p, rfl⟩ := q0G q
   simp only [Bool.and_eq_true, beq_iff_eq] at h
   have l := g.loc x h.2
   exact q9z g.nd (by rw [g.N]; exact h.1) l.1 l.2
  ·cases h
 | many is =>
  unfold tgOk at h
  dsimp only at h
  split at h
  ·rename_i es q
   obtain ⟨k, p, rfl⟩ := q3f q
   rw [Bool.and_eq_true, Bool.and_eq_true, beq_iff_eq] at h
   obtain ⟨A, B, C⟩ := q6o g is es h.1.1 h.2
   exact z3R g.calm A B C
  ·cases h
end
section
variable (G : Gs) (F : Nat -> List DV -> Option Ou)
noncomputable def SE (m : ME) : Prop := ∀ {sg : Sg} {X : Cx} {E : St -> XK} {e : Expr} {δ : List Sv} {r : Re}, Good sg G F X E -> corE sg false m e = true -> evE G F m δ = some r -> PE X e (dE X.D E δ r)
noncomputable def ST (m : ME) : Prop := ∀ {sg : Sg} {X : Cx} {E : St -> XK} {e : Expr} {δ : List Sv} {r : Rt}, Good sg G F X E -> corE sg false m e = true -> tstD (evE G F m δ) = some r -> PT X e (dT X.D E δ r)
noncomputable def SI (m : ME) : Prop := ∀ {sg : Sg} {X : Cx} {E : St -> XK} {e tg : Expr} {δ : List Sv} {r : Ri}, Good sg G F X E -> corE sg true m e = true -> (isZp m = true -> (q2I tg).isSome = true) -> q1b (evE G F m δ) = some r -> PI X tg e (dI X.D E δ r)
noncomputable def SEs (ms : List ME) : Prop := ∀ {sg : Sg} {X : Cx} {E : St -> XK} {es : List Expr} {δ : List Sv} {r : Rs}, Good sg G F X E -> q0Y sg ms es = true -> evEs G F ms δ = some r -> PA X es (dA X.D E δ r)
noncomputable def SAnd (ms : List ME) : Prop := ∀ {sg : Sg} {X : Cx} {E : St -> XK} {es : List Expr} {δ : List Sv} {pos : Pos}, Good sg G F X E -> q0Y sg ms es = true ->
 (∀ r, q2p G F ms δ = some r -> PE X (.BoolOp .And es pos) (dE X.D E δ r)) /\ (∀ r, tstD (q2p G F ms δ) = some r -> PW X (.BoolOp .And es pos) (dT X.D E δ r))
noncomputable def SOr (ms : List ME) : Prop := ∀ {sg : Sg} {X : Cx} {E : St -> XK} {es : List Expr} {δ : List Sv} {pos : Pos}, Good sg G F X E -> q0Y sg ms es = true ->
 (∀ r, evOr G F ms δ = some r -> PE X (.BoolOp .Or es pos) (dE X.D E δ r)) /\ (∀ r, tstD (evOr G F ms δ) = some r -> PW X (.BoolOp .Or es pos) (dT X.D E δ r))
noncomputable def S1 (m : ME) : Prop := SE G F m /\ ST G F m /\ SI G F m
end
section
variable {G : Gs} {F : Nat -> List DV -> Option Ou}
theorem S1.of {m : ME} (h : SE G F m) (hw : ∀ sg e, corE sg true m e = corE sg false m e) (ht : ∀ sg e env, corE sg false m e = true -> ∀ whole, isTrue e env whole = (do let v ← whole; standAt e.pos; holding [v] (truthy v))) : S1 G F m :=
 ⟨h, λ {sg X E e δ r} g hc q => q9Q (λ z hz => h g hc hz) (ht sg e X.env hc) q, λ {sg X E e tg δ r} g hc _ q => q7z (λ z hz => h g (by rw [← hw]; exact hc) hz) q⟩
theorem S1.of2 {m : ME} (h : SE G F m) (ht : ST G F m) (hw : ∀ sg e, corE sg true m e = corE sg false m e) : S1 G F m :=
 ⟨h, ht, λ {sg X E e tg δ r} g hc _ q => q7z (λ z hz => h g (by rw [← hw]; exact hc) hz) q⟩
end
end L2
end
section
namespace L2
open PySem PySem.Spec PyProof.Rows
noncomputable def z5Q : Expr -> Bool
 | .UnaryOp .Not _ _ => false | .BoolOp _ _ _ => false | .IfExp _ _ _ _ => false | .Compare _ _ _ _ => false
 | _ => true
theorem q0g {e : Expr} (h : z5Q e = true) (env : Env) : ∀ whole, isTrue e env whole = (do let v ← whole; standAt e.pos; holding [v] (truthy v)) := by
 cases e with
 | UnaryOp o a p => cases o <;> first | (intro _; rfl) | cases h
 | BoolOp _ _ _ => cases h
 | IfExp _ _ _ _ => cases h
 | Compare _ _ _ _ => cases h
 | _ => intro _; rfl
section
variable {G : Gs} {F : Nat -> List DV -> Option Ou} {a b c : ME}
theorem z6W {i : Nat} : S1 G F (.var i) := by
 refine .of (λ {sg X E e δ r} g hc h => ?_) (λ _ _ => rfl) (λ sg e env hc => ?_)
 ·unfold corE at hc
  split at hc
  ·rename_i x q
   obtain ⟨p, rfl⟩ := q0G q
   obtain ⟨h1, h2, h3, h4⟩ := q6F g hc
   exact z3N h1 h2 h3 h4 (by unfold evE at h; exact h)
  ·cases hc
 ·unfold corE at hc
  split at hc
  ·rename_i x q
   obtain ⟨p, rfl⟩ := q0G q
   exact q0g rfl env
  ·cases hc
theorem q4R {m : ME} {k : Const} {d : DV} (hm : ∀ sg w e, corE sg w m e = true -> q2r e = some k) (he : ∀ δ, evE G F m δ = some (.ok d .strong)) (hw : ∀ sg e, corE sg true m e = corE sg false m e)
  (hp : ∀ {X : Cx} {E : St -> XK} {δ : List Sv} {j : Nat} {pos : Pos} sg e, corE sg false m e = true -> PE X (.Constant k j pos) (dE X.D E δ (.ok d .strong))) : S1 G F m := by
 refine .of (λ {sg X E e δ r} g hc h => ?_) hw (λ sg e env hc => ?_)
 ·obtain ⟨j, p, rfl⟩ := q4F (hm sg false e hc)
  rw [he] at h; cases h
  exact hp sg _ hc
 ·obtain ⟨j, p, rfl⟩ := q4F (hm sg false e hc)
  exact q0g rfl env
theorem z6s {i : Int} : S1 G F (.int i) := q4R (λ sg w e h => by unfold corE at h; exact beq_iff_eq.mp h) (λ δ => by unfold evE; rfl) (λ _ _ => rfl) λ _ _ _ => z2g
theorem s_bl {i : Bool} : S1 G F (.bl i) := q4R (λ sg w e h => by unfold corE at h; exact beq_iff_eq.mp h) (λ δ => by unfold evE; rfl) (λ _ _ => rfl) λ _ _ _ => z4w
theorem z6h : S1 G F .non := q4R (λ sg w e h => by unfold corE at h; exact beq_iff_eq.mp h) (λ δ => by unfold evE; rfl) (λ _ _ => rfl) λ _ _ _ => z2n
theorem z6S {i : Str} : S1 G F (.str i) := q4R (λ sg w e h => by unfold corE at h; rw [Bool.and_eq_true] at h; exact beq_iff_eq.mp h.1) (λ δ => by unfold evE; rfl) (λ _ _ => rfl) λ _ _ h => by
 unfold corE at h
 rw [Bool.and_eq_true, decide_eq_true_eq] at h
 exact z3w (Nat.le_trans h.2 (by decide))
theorem z6u {x : Str} : S1 G F (.glb x) := by
 refine .of (λ {sg X E e δ r} g hc h => ?_) (λ _ _ => rfl) (λ sg e env hc => ?_)
 ·unfold corE at hc
  simp only [Bool.and_eq_true, beq_iff_eq, bne_iff_ne, ne_eq] at hc
  obtain ⟨p, rfl⟩ := q0G hc.1.1
  unfold evE at h
  obtain ⟨d, h1, h2⟩ := Option.map_eq_some_iff.mp h
  cases h2
  obtain ⟨u, v, m, rv, rp⟩ := g.con x d h1
  exact (q8K (g.glo x hc.1.2) m rv (beq_eq_false_iff_ne.mpr hc.2)).weak λ σ H Q ⟨O, W, R, p⟩ => p v H (Same.refl H) (rp _)
 ·unfold corE at hc
  simp only [Bool.and_eq_true, beq_iff_eq] at hc
  obtain ⟨p, rfl⟩ := q0G hc.1.1
  exact q0g rfl env
theorem z7b {x : Str} (hb : S1 G F b) : S1 G F (.gdx x b) := by
 refine .of (λ {sg X E e δ r} g hc h => ?_) (λ _ _ => rfl) (λ sg e env hc => ?_)
 ·unfold corE at hc
  split at hc
  ·rename_i ea eb q
   obtain ⟨sp, rfl⟩ := q1k q
   simp only [Bool.and_eq_true, beq_iff_eq, bne_iff_ne, ne_eq, Bool.not_eq_true'] at hc
   obtain ⟨⟨⟨⟨h1, h2⟩, h3⟩, h4⟩, h5⟩ := hc
   obtain ⟨p, rfl⟩ := q0G h1
   unfold evE at h
   split at h
   case isFalse => cases h
   rename_i hsome
   cases hr : evE G F b δ with
   | none => rw [hr] at h; cases h
   | some rb =>
    rw [hr] at h
    have B := hb.1 g h4 hr
    have C : ∀ {v : V} {u : Value} (m : X.mg x = some u) (rv : RelV v u) t, PE X eb t -> PE X (.Subscript (.Name x p) eb sp) (tOp (rIxK X) (tC v) t) := λ m rv t hB =>
     z3U ix_K (q8K (g.glo x h2) m rv (beq_eq_false_iff_ne.mpr h3)) hB (by cases eb <;> first | (intro _ _; rfl) | cases h5)
    cases rb with
    | ex c =>
     cases h
     cases hl : G.dcs.lookup x with
     | none => rw [hl] at hsome; cases hsome
     | some kvs =>
      obtain ⟨a, es, n, m, e1, e2, e3⟩ := g.dcs x kvs hl
      exact (C m (v := .ref a) rfl _ B).weak λ σ H Q ⟨O, W, R, p⟩ => ⟨O, W, R, p⟩
    | ok y cy =>
     have h' : ((gdxD G x y).map λ d => Re.ok d .strong) = some r := h
     obtain ⟨d, q1, q2⟩ := Option.map_eq_some_iff.mp h'
     cases q2
     unfold gdxD at q1
     split at q1
     ·rename_i kvs k hl
      obtain ⟨v, q3, q4⟩ := Option.map_eq_some_iff.mp q1
      subst q4
      obtain ⟨a, es, n, m, e1, e2, e3⟩ := g.dcs x kvs hl
      obtain ⟨z, t, e4⟩ := e3 k v q3
      exact (C m (v := .ref a) rfl _ B).weak λ σ H Q ⟨O, W, R, p⟩ => ⟨O, W, R, λ w H1 s1 gy => ⟨a, es, n, k, v, t, rfl, (gy.str (R.hid.mono s1)).1, e1, e2, e4, p _ H1 s1 (q2c.mpr ⟨rfl, z⟩ : Rep X.D (L2.wo (O ++ W) H1) (.str v) (.str v))⟩⟩
     ·cases q1
  ·cases hc
 ·unfold corE at hc
  split at hc
  ·rename_i ea eb q
   obtain ⟨sp, rfl⟩ := q1k q
   exact q0g rfl env
  ·cases hc
theorem z6O {op : Operator} (ha : S1 G F a) (hb : S1 G F b) : S1 G F (.bin op a b) := by
 refine .of (λ {sg X E e δ r} g hc h => ?_) (λ _ _ => rfl) (λ sg e env hc => ?_)
 ·unfold corE at hc
  split at hc
  ·rename_i ea o eb q
   obtain ⟨p, rfl⟩ := q4X q
   simp only [Bool.and_eq_true, beq_iff_eq] at hc
   obtain ⟨⟨h1, h2⟩, h3⟩ := hc
   subst h1
   unfold evE at h
   exact z2O (λ z hz => ha.1 g h2 hz) (λ z hz => hb.1 g h3 hz) h
  ·cases hc
 ·unfold corE at hc
  split at hc
  ·rename_i q; obtain ⟨p, rfl⟩ := q4X q; exact q0g rfl env
  ·cases hc
theorem z7i (ha : S1 G F a) : S1 G F (.neg a) := by
 refine .of (λ {sg X E e δ r} g hc h => ?_) (λ _ _ => rfl) (λ sg e env hc => ?_)
 ·unfold corE at hc
  split at hc
  ·rename_i o ea q
   obtain ⟨p, rfl⟩ := q5p q
   simp only [Bool.and_eq_true, beq_iff_eq] at hc
   obtain ⟨h1, h2⟩ := hc
   subst h1
   unfold evE at h
   exact z3M (λ z hz => ha.1 g h2 hz) h
  ·cases hc
 ·unfold corE at hc
  split at hc
  ·rename_i q; obtain ⟨p, rfl⟩ := q5p q
   simp only [Bool.and_eq_true, beq_iff_eq] at hc
   obtain ⟨h1, h2⟩ := hc
   subst h1
   exact q0g rfl env
  ·cases hc
theorem z6v (ha : S1 G F a) : S1 G F (.not a) := by
 refine .of2 (λ {sg X E e δ r} g hc h => ?_) (λ {sg X E e δ r} g hc h => ?_) (λ _ _ => rfl)
 ·unfold corE at hc
  split at hc
  ·rename_i o ea q
   obtain ⟨p, rfl⟩ := q5p q
   simp only [Bool.and_eq_true, beq_iff_eq] at hc
   obtain ⟨h1, h2⟩ := hc
   subst h1
   unfold evE at h
   exact z2B (λ z hz => ha.1 g h2 hz) h
  ·cases hc
 ·unfold corE at hc
  split at hc
  ·rename_i o ea q
   obtain ⟨p, rfl⟩ := q5p q
   simp only [Bool.and_eq_true, beq_iff_eq] at hc
   obtain ⟨h1, h2⟩ := hc
   subst h1
   unfold evE at h
   exact z0I (λ z hz => ha.2.1 g h2 hz) h
  ·cases hc
theorem z6A {op : CmpOp} (ha : S1 G F a) (hb : S1 G F b) : S1 G F (.cmp op a b) := by
 refine .of2 (λ {sg X E e δ r} g hc h => ?_) (λ {sg X E e δ r} g hc h => ?_) (λ _ _ => rfl)
 ·unfold corE at hc
  split at hc
  ·rename_i ea o eb q
   obtain ⟨p, rfl⟩ := q3Q q
   simp only [Bool.and_eq_true, beq_iff_eq, Bool.not_eq_true'] at hc
   obtain ⟨⟨⟨h1, h2⟩, h3⟩, h4⟩ := hc
   subst h1
   unfold evE at h
   exact z2x g.hu (λ z hz => ha.1 g h2 hz) (λ z hz => hb.1 g h3 hz) h4 h
  ·cases hc
 ·unfold corE at hc
  split at hc
  ·rename_i ea o eb q
   obtain ⟨p, rfl⟩ := q3Q q
   simp only [Bool.and_eq_true, beq_iff_eq, Bool.not_eq_true'] at hc
   obtain ⟨⟨⟨h1, h2⟩, h3⟩, h4⟩ := hc
   subst h1
   unfold evE at h
   exact z0H g.hu (λ z hz => ha.1 g h2 hz) (λ z hz => hb.1 g h3 hz) h4 h
  ·cases hc
theorem z2X {op op' : CmpOp} (ha : S1 G F a) (hb : S1 G F b) (hcc : S1 G F c) : S1 G F (.chain op op' a b c) := by
 refine .of2 (λ {sg X E e δ r} g hc h => ?_) (λ {sg X E e δ r} g hc h => ?_) (λ _ _ => rfl)
 ·unfold corE at hc
  split at hc
  ·rename_i ea o o' eb ec q
   obtain ⟨p, rfl⟩ := q3Q q
   simp only [Bool.and_eq_true, beq_iff_eq, Bool.not_eq_true'] at hc
   obtain ⟨⟨⟨⟨⟨h1, h1'⟩, h2⟩, h3⟩, h4⟩, h5⟩ := hc
   subst h1 h1'
   unfold evE at h
   exact q8O g.hu (λ z hz => ha.1 g h2 hz) (λ z hz => hb.1 g h3 hz) (λ z hz => hcc.1 g h4 hz) h5 h
  ·cases hc
 ·unfold corE at hc
  split at hc
  ·rename_i ea o o' eb ec q
   obtain ⟨p, rfl⟩ := q3Q q
   simp only [Bool.and_eq_true, beq_iff_eq, Bool.not_eq_true'] at hc
   obtain ⟨⟨⟨⟨⟨h1, h1'⟩, h2⟩, h3⟩, h4⟩, h5⟩ := hc
   subst h1 h1'
   unfold evE at h
   exact q7N g.hu (λ z hz => ha.1 g h2 hz) (λ z hz => hb.1 g h3 hz) (λ z hz => hcc.1 g h4 hz) h5 h
  ·cases hc
theorem z6L (hcc : S1 G F c) (ha : S1 G F a) (hb : S1 G F b) : S1 G F (.ite c a b) := by
 refine .of2 (λ {sg X E e δ r} g hc h => ?_) (λ {sg X E e δ r} g hc h => ?_) (λ _ _ => rfl)
 ·unfold corE at hc
  split at hc
  ·rename_i ec ea eb q
   obtain ⟨p, rfl⟩ := q8n q
   simp only [Bool.and_eq_true] at hc
   obtain ⟨⟨h1, h2⟩, h3⟩ := hc
   unfold evE at h
   exact z3e (λ z hz => hcc.2.1 g h1 hz) (λ z hz => ha.1 g h2 hz) (λ z hz => hb.1 g h3 hz) h
  ·cases hc
 ·unfold corE at hc
  split at hc
  ·rename_i ec ea eb q
   obtain ⟨p, rfl⟩ := q8n q
   simp only [Bool.and_eq_true] at hc
   obtain ⟨⟨h1, h2⟩, h3⟩ := hc
   unfold evE at h
   exact z0T (λ z hz => hcc.2.1 g h1 hz) (λ z hz => ha.2.1 g h2 hz) (λ z hz => hb.2.1 g h3 hz) h
  ·cases hc
theorem s_ix (ha : S1 G F a) (hb : S1 G F b) : S1 G F (.ix a b) := by
 refine .of (λ {sg X E e δ r} g hc h => ?_) (λ _ _ => rfl) (λ sg e env hc => ?_)
 ·unfold corE at hc
  split at hc
  ·rename_i ea eb q
   obtain ⟨p, rfl⟩ := q1k q
   simp only [Bool.and_eq_true, Bool.not_eq_true'] at hc
   obtain ⟨⟨h1, h2⟩, h3⟩ := hc
   unfold evE at h
   exact z4n (λ z hz => ha.1 g h1 hz) (λ z hz => hb.1 g h2 hz) h3 h
  ·cases hc
 ·unfold corE at hc
  split at hc
  ·rename_i q; obtain ⟨p, rfl⟩ := q1k q; exact q0g rfl env
  ·cases hc
theorem s_sl (ha : S1 G F a) (hb : S1 G F b) (hcc : S1 G F c) : S1 G F (.sl a b c) := by
 refine .of (λ {sg X E e δ r} g hc h => ?_) (λ _ _ => rfl) (λ sg e env hc => ?_)
 ·unfold corE at hc
  split at hc
  ·rename_i ea es q
   obtain ⟨p, rfl⟩ := q1k q
   split at hc
   ·rename_i q2
    obtain ⟨p2, rfl⟩ := q3k q2
    simp only [Bool.and_eq_true] at hc
    obtain ⟨⟨h1, h2⟩, h3⟩ := hc
    unfold evE at h
    exact z4K (λ z hz => ha.1 g h1 hz) (λ z hz => hb.1 g h2 hz) (λ z hz => hcc.1 g h3 hz) h
   ·cases hc
  ·cases hc
 ·unfold corE at hc
  split at hc
  ·rename_i q; obtain ⟨p, rfl⟩ := q1k q; exact q0g rfl env
  ·cases hc
theorem z6w (ha : S1 G F a) (hb : S1 G F b) : S1 G F (.slf a b) := by
 refine .of (λ {sg X E e δ r} g hc h => ?_) (λ _ _ => rfl) (λ sg e env hc => ?_)
 ·unfold corE at hc
  split at hc
  ·rename_i ea es q
   obtain ⟨p, rfl⟩ := q1k q
   split at hc
   ·rename_i q2
    obtain ⟨p2, rfl⟩ := q3k q2
    simp only [Bool.and_eq_true] at hc
    obtain ⟨h1, h2⟩ := hc
    unfold evE at h
    exact z2y (λ z hz => ha.1 g h1 hz) (λ z hz => hb.1 g h2 hz) h
   ·cases hc
  ·cases hc
 ·unfold corE at hc
  split at hc
  ·rename_i q; obtain ⟨p, rfl⟩ := q1k q; exact q0g rfl env
  ·cases hc
theorem z6l (ha : S1 G F a) (hb : S1 G F b) : S1 G F (.slt a b) := by
 refine .of (λ {sg X E e δ r} g hc h => ?_) (λ _ _ => rfl) (λ sg e env hc => ?_)
 ·unfold corE at hc
  split at hc
  ·rename_i ea es q
   obtain ⟨p, rfl⟩ := q1k q
   split at hc
   ·rename_i q2
    obtain ⟨p2, rfl⟩ := q3k q2
    simp only [Bool.and_eq_true] at hc
    obtain ⟨h1, h2⟩ := hc
    unfold evE at h
    exact z2V (λ z hz => ha.1 g h1 hz) (λ z hz => hb.1 g h2 hz) h
   ·cases hc
  ·cases hc
 ·unfold corE at hc
  split at hc
  ·rename_i q; obtain ⟨p, rfl⟩ := q1k q; exact q0g rfl env
  ·cases hc
theorem q4l {m : ME} (h : ∀ δ, evE G F m δ = none) : S1 G F m := by
 refine ⟨λ {sg X E e δ r} g hc q => ?_, λ {sg X E e δ r} g hc q => ?_, λ {sg X E e tg δ r} g hc _ q => ?_⟩ <;> (rw [h] at q; cases q)
variable {ms : List ME}
theorem q3x : ∀ {sg : Sg} {ms : List ME} {es : List Expr}, q0Y sg ms es = true -> es.any q0p = false
 | _, [], [], _ => rfl
 | _, [], _ :: _, h => by unfold q0Y at h; cases h
 | _, _ :: _, [], h => by unfold q0Y at h; cases h
 | sg, m :: ms, e :: es, h => by
  unfold q0Y at h
  simp only [Bool.and_eq_true, Bool.not_eq_true'] at h
  rw [List.any_cons, h.1.2, q3x h.2]; rfl
theorem z6V (ha : SEs G F ms) : S1 G F (.lst ms) := by
 refine .of (λ {sg X E e δ r} g hc h => ?_) (λ _ _ => rfl) (λ sg e env hc => ?_)
 ·unfold corE at hc
  split at hc
  ·rename_i es q
   obtain ⟨p, rfl⟩ := q5K q
   unfold evE at h
   exact z1X (λ z hz => ha g hc hz) h
  ·cases hc
 ·unfold corE at hc
  split at hc
  ·rename_i q; obtain ⟨p, rfl⟩ := q5K q; exact q0g rfl env
  ·cases hc
theorem z6I (ha : SEs G F ms) : S1 G F (.tup ms) := by
 refine .of (λ {sg X E e δ r} g hc h => ?_) (λ _ _ => rfl) (λ sg e env hc => ?_)
 ·unfold corE at hc
  split at hc
  ·rename_i es q
   obtain ⟨k, p, rfl⟩ := q3f q
   unfold evE at h
   exact z3A (λ z hz => ha g hc hz) h
  ·cases hc
 ·unfold corE at hc
  split at hc
  ·rename_i q; obtain ⟨k, p, rfl⟩ := q3f q; exact q0g rfl env
  ·cases hc
theorem z5p {f : Nat} (ha : SEs G F ms) : S1 G F (.call f ms) := by
 refine .of (λ {sg X E e δ r} g hc h => ?_) (λ _ _ => rfl) (λ sg e env hc => ?_)
 ·unfold corE at hc
  split at hc
  ·rename_i ef es pos q
   have := q0E q
   subst this
   rw [Bool.and_eq_true, Bool.and_eq_true] at hc
   obtain ⟨⟨h1, h2⟩, h3⟩ := hc
   split at h1
   ·rename_i x qx
    obtain ⟨p, rfl⟩ := q0G qx
    simp only [Bool.and_eq_true, beq_iff_eq, bne_iff_ne, ne_eq] at h1
    obtain ⟨k, fa, fd, ps, hr, hm, hk, hb, hl, fo⟩ := g.fns f x h1.1.1
    cases es with
    | nil => cases h2
    | cons y ys =>
     have ns := q3x h3
     rw [List.any_cons, Bool.or_eq_false_iff] at ns
     unfold evE at h
     exact z1c fo hl hr (g.glo x h1.1.2) hm hk hb g.pas (λ z hz => ha g h3 hz) (beq_eq_false_iff_ne.mpr h1.2) ns.1 ns.2 h
   ·cases h1
  ·cases hc
 ·unfold corE at hc
  split at hc
  ·rename_i q; have := q0E q; subst this; exact q0g rfl env
  ·cases hc
theorem s_bi {f : Bi} (ha : SEs G F ms) : S1 G F (.bi f ms) := by
 refine .of (λ {sg X E e δ r} g hc h => ?_) (λ _ _ => rfl) (λ sg e env hc => ?_)
 ·unfold corE at hc
  split at hc
  ·rename_i ef es pos q
   have := q0E q
   subst this
   rw [Bool.and_eq_true, Bool.and_eq_true] at hc
   obtain ⟨⟨h1, h2⟩, h3⟩ := hc
   obtain ⟨⟨p, rfl⟩, hg, hm⟩ := q4C g h1
   unfold evE at h
   cases es with
   | nil => cases h2
   | cons y ys =>
    have go : q0Y sg ms (y :: ys) = true -> (∀ q, evEs G F ms δ = some q -> PA X (y :: ys) (dA X.D E δ q)) /\ q0p y = false /\ ys.any q0p = false := λ z => by
     have ns := q3x z
     rw [List.any_cons, Bool.or_eq_false_iff] at ns
     exact ⟨λ w hw => ha g z hw, ns.1, ns.2⟩
    cases f with
    | len => obtain ⟨A, s1, s2⟩ := go h3; exact z1V z5r z3v hg hm boot_len (by decide) (by decide) A s1 s2 h
    | min => obtain ⟨A, s1, s2⟩ := go h3; exact z1V (z5V g.calm) z3F hg hm boot_min (by decide) (by decide) A s1 s2 h
    | int => obtain ⟨A, s1, s2⟩ := go h3; exact q6E z5W z3u hg hm boot_int (by decide) (by decide) A s1 s2 h
    | list => obtain ⟨A, s1, s2⟩ := go h3; exact q6E z2w z1b hg hm boot_list (by decide) (by decide) A s1 s2 h
    | tuple => obtain ⟨A, s1, s2⟩ := go h3; exact q6E z1f q9v hg hm boot_tuple (by decide) (by decide) A s1 s2 h
    | sset =>
     dsimp only at h3
     split at h3
     ·rename_i e1 q2
      split at h3
      ·rename_i ef' es' pos' q3
       have q4 := q0E q3
       cases q2
       subst q4
       rw [Bool.and_eq_true, Bool.and_eq_true] at h3
       obtain ⟨⟨p', rfl⟩, hg', hm'⟩ := q4C g h3.1.1
       cases es' with
       | nil => cases h3.1.2
       | cons y' ys' =>
        have ns := q3x h3.2
        rw [List.any_cons, Bool.or_eq_false_iff] at ns
        cases ys' with
        | nil => exact z0E g.calm hg hm hg' hm' (λ w hw => ha g h3.2 hw) ns.1 h
        | cons y2 yr =>
         have z := beq_iff_eq.mp h3.1.2
         simp at z
      ·cases h3
     ·cases h3
    | lrng =>
     dsimp only at h3
     split at h3
     ·rename_i e1 q2
      split at h3
      ·rename_i ef' es' pos' q3
       have q4 := q0E q3
       cases q2
       subst q4
       rw [Bool.and_eq_true, Bool.and_eq_true] at h3
       obtain ⟨⟨p', rfl⟩, hg', hm'⟩ := q4C g h3.1.1
       cases es' with
       | nil => cases h3.1.2
       | cons y' ys' =>
        have ns := q3x h3.2
        rw [List.any_cons, Bool.or_eq_false_iff] at ns
        cases ys' with
        | nil => exact z0D g.calm hg hm hg' hm' (λ w hw => ha g h3.2 hw) ns.1 h
        | cons y2 yr =>
         have z := beq_iff_eq.mp h3.1.2
         simp at z
      ·cases h3
     ·cases h3
    | _ => cases h
  ·cases hc
 ·unfold corE at hc
  split at hc
  ·rename_i q; have := q0E q; subst this; exact q0g rfl env
  ·cases hc
theorem q9H {x : Str} (h : q2u.contains x = true) : ∃ t, q4N x = some t := by
 have key : ∀ x ∈ q2u, ∃ t, q4N x = some t := by
  intro x hx
  simp only [q2u, List.mem_cons, List.not_mem_nil, or_false] at hx
  rcases hx with rfl | rfl | rfl | rfl | rfl | rfl
  ·exact ⟨"int", by decide +kernel⟩
  ·exact ⟨"bool", by decide +kernel⟩
  ·exact ⟨"str", by decide +kernel⟩
  ·exact ⟨"list", by decide +kernel⟩
  ·exact ⟨"tuple", by decide +kernel⟩
  ·exact ⟨"dict", by decide +kernel⟩
 exact key x (List.contains_iff_mem.mp h)
theorem q4S : ∀ x ∈ q2u, x ≠ "__name__" /\ (x == ("__debug__" : Str)) = false := by
 intro x hx
 simp only [q2u, List.mem_cons, List.not_mem_nil, or_false] at hx
 rcases hx with rfl | rfl | rfl | rfl | rfl | rfl <;> exact ⟨by decide +kernel, by decide +kernel⟩
noncomputable def z6X : V -> List V -> Hp -> VK -> Prop := λ x xs H Q => ∃ i, x = .int i /\ xs = [] /\ Q (.int (q6g i)) H
theorem z2f (i : Int) : ((Builtin.Int.intBits i : Nat) : Int) = q6g i := by
 unfold Builtin.Int.intBits q6g
 by_cases h : i = 0
 ·subst h; rfl
 ·rw [if_neg (by simpa using h), if_neg h]; push_cast; rfl
theorem z2K {X : Cx} : MtR X "int.bit_length" z6X := by
 intro pins s σ H x xs v us Q I rx rv h
 obtain ⟨i, rfl, rfl, q⟩ := h
 obtain ⟨t, rfl⟩ := (show ∃ t, v = Value.int i t from rx)
 cases rv
 exact PyProof.Rows.call_int_bit_length ⟨.int (q6g i), H, I.tok _, by rw [← z2f]; exact ⟨_, rfl⟩, q⟩
theorem z4B {m : Mt} {es : List ME} (ha : S1 G F a) : S1 G F (.meth m a es) := by
 refine .of (λ {sg X E e δ r} g hc h => ?_) (λ _ _ => rfl) (λ sg e env hc => ?_)
 ·unfold corE at hc
  split at hc
  ·rename_i ef pos q
   have := q0E q
   subst this
   split at hc
   ·rename_i ea n apos q2
    have := q5T q2
    subst this
    simp only [Bool.and_eq_true, beq_iff_eq] at hc
    obtain ⟨⟨⟨⟨h1, h2⟩, h3⟩, h4⟩, h5⟩ := hc
    subst h1
    have hbs : attributeBase ea (z1B m) X.env (eval ea X.env) = eval ea X.env := by
     rw [Bool.or_eq_true] at h3
     rcases h3 with h3 | h3
     ·obtain ⟨y, hy⟩ := Option.isSome_iff_exists.mp h3
      obtain ⟨np, rfl⟩ := q0G hy
      rfl
     ·obtain ⟨⟨a1, o1, b1⟩, hy⟩ := Option.isSome_iff_exists.mp h3
      obtain ⟨np, rfl⟩ := q4X hy
      rfl
    unfold evE at h
    cases m with
    | bitLength =>
     rw [if_pos rfl] at h
     have P := λ t (hA : PE X ea t) => z5z (apos := apos) (cpos := pos) PySem.F.plainAttrs_int PySem.F.slot_int_bit_length PySem.F.type_int_bit_length z2K hA hbs (by rw [beq_iff_eq]; exact h4)
     cases hra : evE G F a δ with
     | none => rw [hra] at h; cases h
     | some q =>
      rw [hra] at h
      have A := ha.1 g h2 hra
      cases q with
      | ex c => cases h; exact (P _ A).weak λ σ H Q ⟨O, W, R, p⟩ => ⟨O, W, R, p⟩
      | ok d dc =>
       have h' : mtD .bitLength d = some r := h
       unfold mtD at h'
       split at h'
       ·rename_i i _
        cases h'
        exact (P _ A).weak λ σ H Q ⟨O, W, R, p⟩ => ⟨O, W, R, λ v H1 s1 g1 => by
         have hv := g1.int (R.hid.mono s1)
         subst hv
         exact ⟨rfl, i, rfl, rfl, p _ H1 s1 q0D⟩⟩
       ·cases h'
    | index => rw [if_neg (by decide)] at h; cases h
    | get => rw [if_neg (by decide)] at h; cases h
   ·cases hc
  ·cases hc
 ·unfold corE at hc
  split at hc
  ·rename_i q
   have := q0E q
   subst this
   exact q0g rfl env
  ·cases hc
theorem z6F {ts : List Str} (ha : S1 G F a) : S1 G F (.isi a ts) := by
 refine .of (λ {sg X E e δ r} g hc h => ?_) (λ _ _ => rfl) (λ sg e env hc => ?_)
 ·unfold corE at hc
  split at hc
  ·rename_i ef ea et pos q
   have := q0E q
   subst this
   simp only [Bool.and_eq_true, Bool.not_eq_true'] at hc
   obtain ⟨⟨⟨⟨h1, h2⟩, h3⟩, h4⟩, h5⟩ := hc
   obtain ⟨⟨p, rfl⟩, hg, hm⟩ := q4C g h1
   split at h5
   ·rename_i t
    simp only [Bool.and_eq_true, beq_iff_eq, List.contains_iff_mem] at h5
    obtain ⟨⟨⟨k1, k2⟩, k3⟩, k4⟩ := h5
    obtain ⟨p', rfl⟩ := q0G k1
    obtain ⟨T, hT⟩ := q9H (List.contains_iff_mem.mpr k4)
    obtain ⟨n1, n2⟩ := q4S t k4
    unfold evE at h
    exact z2R hT hg hm (g.glo t k2) (g.blt t k3) n1 n2 (λ z hz => ha.1 g h2 hz) h3 h
   ·cases h5
  ·cases hc
 ·unfold corE at hc
  split at hc
  ·rename_i q; have := q0E q; subst this; exact q0g rfl env
  ·cases hc
theorem q2l : ∀ {ms : List ME} {δ : List Sv} {l : List (DV × Cl)}, evEs G F ms δ = some (.ok l) -> l.length = ms.length
 | [], _, _, h => by unfold evEs at h; cases h; rfl
 | m :: ms, δ, l, h => by
  unfold evEs at h
  split at h
  ·cases h
  ·cases h
  ·split at h
   ·cases h
   ·cases h
   ·rename_i l' q
    cases h
    rw [List.length_cons, List.length_cons, q2l q]
theorem q3B : ∀ {sg : Sg} {ms : List ME} {es : List Expr}, q0Y sg ms es = true -> ms.length = es.length
 | _, [], [], _ => rfl
 | _, [], _ :: _, h => by unfold q0Y at h; cases h
 | _, _ :: _, [], h => by unfold q0Y at h; cases h
 | sg, m :: ms, e :: es, h => by
  unfold q0Y at h
  simp only [Bool.and_eq_true] at h
  rw [List.length_cons, List.length_cons, q3B h.2]
theorem z7c (ha : SEs G F ms) : S1 G F (.rng ms) := by
 refine ⟨λ {sg X E e δ r} g hc h => ?_, λ {sg X E e δ r} g hc h => ?_, λ {sg X E e tg δ r} g hc _ h => ?_⟩
 ·unfold corE at hc; rw [Bool.false_and] at hc; cases hc
 ·unfold corE at hc; rw [Bool.false_and] at hc; cases hc
 ·unfold corE at hc
  rw [Bool.true_and] at hc
  split at hc
  ·rename_i ef es pos q
   have := q0E q
   subst this
   rw [Bool.and_eq_true, decide_eq_true_eq] at hc
   obtain ⟨hc, hle⟩ := hc
   rw [Bool.and_eq_true] at hc
   obtain ⟨⟨p, rfl⟩, hg, hm⟩ := q4C g hc.1
   have l1 := q3B hc.2
   have ns := q3x hc.2
   unfold evE at h
   cases es with
   | nil =>
    exfalso
    cases ms with
    | nil => unfold evEs at h; cases h
    | cons _ _ => cases l1
   | cons y ys =>
    rw [List.any_cons, Bool.or_eq_false_iff] at ns
    cases ys with
    | nil => exact q7D hg hm (λ z hz => ha g hc.2 hz) ns.1 h λ l hl => by rw [q2l hl, l1]; rfl
    | cons z zs =>
     cases zs with
     | nil =>
      have ns2 := ns.2
      rw [List.any_cons, Bool.or_eq_false_iff] at ns2
      exact q7G hg hm (λ z hz => ha g hc.2 hz) ns.1 ns2.1 h λ l hl => by rw [q2l hl, l1]; rfl
     | cons u us =>
      cases us with
      | nil =>
       have ns2 := ns.2
       rw [List.any_cons, Bool.or_eq_false_iff] at ns2
       have ns3 := ns2.2
       rw [List.any_cons, Bool.or_eq_false_iff] at ns3
       exact q8e hg hm (λ z hz => ha g hc.2 hz) ns.1 ns2.1 ns3.1 h λ l hl => by rw [q2l hl, l1]; rfl
      | cons _ _ => simp at hle
  ·cases hc
theorem z6R (ha : S1 G F a) : S1 G F (.enu a) := by
 refine ⟨λ {sg X E e δ r} g hc h => ?_, λ {sg X E e δ r} g hc h => ?_, λ {sg X E e tg δ r} g hc ht h => ?_⟩
 ·unfold corE at hc; rw [Bool.false_and] at hc; cases hc
 ·unfold corE at hc; rw [Bool.false_and] at hc; cases hc
 ·unfold corE at hc
  rw [Bool.true_and] at hc
  split at hc
  ·rename_i ef ea pos q
   have := q0E q
   subst this
   simp only [Bool.and_eq_true, Bool.not_eq_true'] at hc
   obtain ⟨⟨h1, h2⟩, h3⟩ := hc
   obtain ⟨⟨p, rfl⟩, hg, hm⟩ := q4C g h1
   have t := ht rfl
   cases q2 : q2I tg with
   | none => rw [q2] at t; cases t
   | some elts =>
    obtain ⟨k, tp, rfl⟩ := q3f q2
    unfold evE at h
    exact z0V hg hm h3 (λ z hz => ha.1 g h2 hz) h
  ·cases hc
theorem z3E {sg : Sg} {X : Cx} {E : St -> XK} {e : Expr} {δ : List Sv} {r : Re} {tg : Tg} {fr : List (Option Nat)} {cp : CParts} {tn : List Str} (ha : S1 G F a) (hb : S1 G F b) (g : Good sg G F X E) (hemp : cp.ifs = [])
  (h2 : corE sg true b cp.it = true) (hz : isZp b = true -> (q2I cp.tg).isSome = true) (h4 : q2S sg (q1A sg tn fr) fr cp.sc tg = true) (h5 : tgOk ⟨q1A sg tn fr, cp.sc.names, sg.fn, sg.bl, sg.cl, false, true⟩ tg cp.tg = true) (h6 : corE ⟨q1A sg tn fr, cp.sc.names, sg.fn, sg.bl, sg.cl, false, true⟩ false a cp.elt = true)
  (h : evE G F (.comp a tg b fr) δ = some r) : q1x X E δ cp.tg cp.it cp.ifs cp.elt cp.sc (q1A sg tn fr) fr tg r := by
 obtain ⟨S, nd, sl⟩ := q1G g h4
 rw [hemp]
 unfold evE at h
 exact q4v S g.calm nd sl (λ z hz' => hb.2.2 g h2 hz hz') (λ C cells s₂ H₂ fp => q8w (q1H g h4 C cells s₂ H₂ fp) h5) (λ δ' r' hr C cells s₂ H₂ fp => ha.1 (q1H g h4 C cells s₂ H₂ fp) h6 hr) h
theorem z0o {sg : Sg} {X : Cx} {E : St -> XK} {e cd : Expr} {δ : List Sv} {r : Re} {tg : Tg} {fr : List (Option Nat)} {cp : CParts} {tn : List Str} (ha : S1 G F a) (hb : S1 G F b) (hcc : S1 G F c) (g : Good sg G F X E) (hemp : cp.ifs = [cd])
  (h2 : corE sg true b cp.it = true) (hz : isZp b = true -> (q2I cp.tg).isSome = true) (h4 : q2S sg (q1A sg tn fr) fr cp.sc tg = true) (h5 : tgOk ⟨q1A sg tn fr, cp.sc.names, sg.fn, sg.bl, sg.cl, false, true⟩ tg cp.tg = true) (h6 : corE ⟨q1A sg tn fr, cp.sc.names, sg.fn, sg.bl, sg.cl, false, true⟩ false a cp.elt = true)
  (h7 : corE ⟨q1A sg tn fr, cp.sc.names, sg.fn, sg.bl, sg.cl, false, true⟩ false c cd = true) (h : evE G F (.compi a tg b c fr) δ = some r) : q1x X E δ cp.tg cp.it cp.ifs cp.elt cp.sc (q1A sg tn fr) fr tg r := by
 obtain ⟨S, nd, sl⟩ := q1G g h4
 rw [hemp]
 unfold evE at h
 exact q3V S g.calm nd sl (λ z hz' => hb.2.2 g h2 hz hz') (λ C cells s₂ H₂ fp => q8w (q1H g h4 C cells s₂ H₂ fp) h5) (λ δ' r' hr C cells s₂ H₂ fp => ha.1 (q1H g h4 C cells s₂ H₂ fp) h6 hr)
  (λ δ' r' hr C cells s₂ H₂ fp => hcc.2.1 (q1H g h4 C cells s₂ H₂ fp) h7 hr) h
noncomputable def q4u (G : Gs) (F : Nat -> List DV -> Option Ou) (m : ME) : Prop := ∀ {sg : Sg} {X : Cx} {E : St -> XK} {e : Expr} {δ : List Sv} {r : Re}, Good sg G F X E -> corE sg false m e = true -> evE G F m δ = some r ->
 ∃ (cp : CParts) (N' : List Str) (fr : List (Option Nat)) (tg : Tg) (p : Pos), e = .ListComp cp.elt [⟨cp.tg, cp.it, cp.ifs, 0⟩] cp.sc p /\ CompScope X.N N' cp.sc X.env.scope fr /\ q1x X E δ cp.tg cp.it cp.ifs cp.elt cp.sc N' fr tg r /\
  (∀ C cells s₂ H₂ fp, PG (q0v X cp.sc N' C cells s₂ H₂ fp) cp.tg (gT X.K tg)) /\ q2H cp.it = false
theorem q4u.s1 {m : ME} (h : q4u G F m) (hw : ∀ sg e, corE sg true m e = corE sg false m e) (hl : ∀ sg e, corE sg false m e = true -> (q4z e).isSome = true) : S1 G F m := by
 refine .of (λ {sg X E e δ r} g hc q => ?_) hw (λ sg e env hc => ?_)
 ·obtain ⟨cp, N', fr, tg, p, rfl, S, P, hG, hs⟩ := h g hc q
  exact P.pe S g.calm hG hs
 ·have := hl sg e hc
  cases z : q4z e with
  | none => rw [z] at this; cases this
  | some cp => obtain ⟨p, rfl⟩ := q3Y z; exact q0g rfl env
theorem z1t {tg : Tg} {fr : List (Option Nat)} (ha : S1 G F a) (hb : S1 G F b) : q4u G F (.comp a tg b fr) := by
 intro sg X E e δ r g hc h
 unfold corE at hc
 split at hc
 ·rename_i cp q
  obtain ⟨p, rfl⟩ := q3Y q
  simp only [Bool.and_eq_true, Bool.not_eq_true', Bool.or_eq_true] at hc
  obtain ⟨⟨⟨h1, h2, h3⟩, h4⟩, h5⟩ := hc
  split at h5
  ·rename_i tn qt
   simp only [Bool.and_eq_true] at h5
   refine ⟨cp, _, fr, tg, p, rfl, (q1G g h5.1.1).1, z3E (e := .ListComp cp.elt [⟨cp.tg, cp.it, cp.ifs, 0⟩] cp.sc p) ha hb g (List.isEmpty_iff.mp h1) h2 (λ z => ?_) h5.1.1 h5.1.2 h5.2 h, λ C cells s₂ H₂ fp => q8w (q1H g h5.1.1 C cells s₂ H₂ fp) h5.1.2, h4⟩
   rcases h3 with w | w
   ·rw [z] at w; cases w
   ·exact w
  ·cases h5
 ·cases hc
theorem q8M {tg : Tg} {fr : List (Option Nat)} (ha : S1 G F a) (hb : S1 G F b) (hcc : S1 G F c) : q4u G F (.compi a tg b c fr) := by
 intro sg X E e δ r g hc h
 unfold corE at hc
 split at hc
 ·rename_i cp q
  obtain ⟨p, rfl⟩ := q3Y q
  simp only [Bool.and_eq_true, Bool.not_eq_true', Bool.or_eq_true] at hc
  obtain ⟨⟨⟨h2, h3⟩, h4⟩, h5⟩ := hc
  split at h5
  ·rename_i tn ec qt qi
   simp only [Bool.and_eq_true] at h5
   refine ⟨cp, _, fr, tg, p, rfl, (q1G g h5.1.1.1).1, z0o (e := .ListComp cp.elt [⟨cp.tg, cp.it, cp.ifs, 0⟩] cp.sc p) ha hb hcc g qi h2 (λ z => ?_) h5.1.1.1 h5.1.1.2 h5.1.2 h5.2 h, λ C cells s₂ H₂ fp => q8w (q1H g h5.1.1.1 C cells s₂ H₂ fp) h5.1.1.2, h4⟩
   rcases h3 with w | w
   ·rw [z] at w; cases w
   ·exact w
  ·cases h5
 ·cases hc
theorem z4D {tg : Tg} {fr : List (Option Nat)} (ha : S1 G F a) (hb : S1 G F b) : S1 G F (.comp a tg b fr) := q4u.s1 (λ {sg X E e δ r} => z1t ha hb) (λ _ _ => rfl) λ sg e hc => by
 unfold corE at hc
 split at hc
 ·rename_i q; rw [q]; rfl
 ·cases hc
theorem z2F {tg : Tg} {fr : List (Option Nat)} (ha : S1 G F a) (hb : S1 G F b) (hcc : S1 G F c) : S1 G F (.compi a tg b c fr) := q4u.s1 (λ {sg X E e δ r} => q8M ha hb hcc) (λ _ _ => rfl) λ sg e hc => by
 unfold corE at hc
 split at hc
 ·rename_i q; rw [q]; rfl
 ·cases hc
theorem z6e : SEs G F [] := λ {sg X E es δ r} g hc h => by
 cases es with
 | nil => unfold evEs at h; cases h; exact z0u
 | cons _ _ => unfold q0Y at hc; cases hc
theorem z5B (ha : S1 G F a) (hb : SEs G F ms) : SEs G F (a :: ms) := λ {sg X E es δ r} g hc h => by
 cases es with
 | nil => unfold q0Y at hc; cases hc
 | cons e es =>
  unfold q0Y at hc
  simp only [Bool.and_eq_true, Bool.not_eq_true'] at hc
  unfold evEs at h
  exact q9i hc.1.2 (λ z hz => ha.1 g hc.1.1 hz) (λ z hz => hb g hc.2 hz) h
theorem z2e : SAnd G F [] := λ {sg X E es δ pos} g hc => ⟨λ r h => (by unfold q2p at h; cases h), λ r h => (by unfold q2p at h; cases h)⟩
theorem z4T : SOr G F [] := λ {sg X E es δ pos} g hc => ⟨λ r h => (by unfold evOr at h; cases h), λ r h => (by unfold evOr at h; cases h)⟩
theorem z0g (ha : S1 G F a) (hb : SAnd G F ms) : SAnd G F (a :: ms) := λ {sg X E es δ pos} g hc => by
 cases es with
 | nil => unfold q0Y at hc; cases hc
 | cons e es =>
  unfold q0Y at hc
  simp only [Bool.and_eq_true, Bool.not_eq_true'] at hc
  cases ms with
  | nil =>
   cases es with
   | nil =>
    refine ⟨λ r h => ?_, λ r h => ?_⟩
    ·unfold q2p at h; exact z1P (ha.1 g hc.1.1 h)
    ·unfold q2p at h; exact z3d (ha.2.1 g hc.1.1 h)
   | cons _ _ => have := hc.2; unfold q0Y at this; cases this
  | cons m ms =>
   cases es with
   | nil => have := hc.2; unfold q0Y at this; cases this
   | cons e' es =>
    have B := @hb sg X E (e' :: es) δ pos g hc.2
    refine ⟨λ r h => ?_, λ r h => ?_⟩
    ·unfold q2p at h; exact z3y (λ z hz => ha.1 g hc.1.1 hz) (λ z hz => B.1 z hz) h
    ·unfold q2p at h; exact z0i (λ z hz => ha.2.1 g hc.1.1 hz) (λ z hz => B.2 z hz) h
theorem z2A (ha : S1 G F a) (hb : SOr G F ms) : SOr G F (a :: ms) := λ {sg X E es δ pos} g hc => by
 cases es with
 | nil => unfold q0Y at hc; cases hc
 | cons e es =>
  unfold q0Y at hc
  simp only [Bool.and_eq_true, Bool.not_eq_true'] at hc
  cases ms with
  | nil =>
   cases es with
   | nil =>
    refine ⟨λ r h => ?_, λ r h => ?_⟩
    ·unfold evOr at h; exact z1P (ha.1 g hc.1.1 h)
    ·unfold evOr at h; exact z4h (ha.2.1 g hc.1.1 h)
   | cons _ _ => have := hc.2; unfold q0Y at this; cases this
  | cons m ms =>
   cases es with
   | nil => have := hc.2; unfold q0Y at this; cases this
   | cons e' es =>
    have B := @hb sg X E (e' :: es) δ pos g hc.2
    refine ⟨λ r h => ?_, λ r h => ?_⟩
    ·unfold evOr at h; exact z5I (λ z hz => ha.1 g hc.1.1 hz) (λ z hz => B.1 z hz) h
    ·unfold evOr at h; exact z2M (λ z hz => ha.2.1 g hc.1.1 hz) (λ z hz => B.2 z hz) h
theorem z6i (ha : SAnd G F ms) : S1 G F (.and ms) := by
 refine .of2 (λ {sg X E e δ r} g hc h => ?_) (λ {sg X E e δ r} g hc h => ?_) (λ _ _ => rfl)
 ·unfold corE at hc
  split at hc
  ·rename_i o es q
   obtain ⟨p, rfl⟩ := q3d q
   simp only [Bool.and_eq_true, beq_iff_eq] at hc
   obtain ⟨h1, h2⟩ := hc
   subst h1
   unfold evE at h
   exact (ha g h2).1 r h
  ·cases hc
 ·unfold corE at hc
  split at hc
  ·rename_i o es q
   obtain ⟨p, rfl⟩ := q3d q
   simp only [Bool.and_eq_true, beq_iff_eq] at hc
   obtain ⟨h1, h2⟩ := hc
   subst h1
   unfold evE at h
   exact ((ha g h2).2 r h).pt
  ·cases hc
theorem s_or (ha : SOr G F ms) : S1 G F (.or ms) := by
 refine .of2 (λ {sg X E e δ r} g hc h => ?_) (λ {sg X E e δ r} g hc h => ?_) (λ _ _ => rfl)
 ·unfold corE at hc
  split at hc
  ·rename_i o es q
   obtain ⟨p, rfl⟩ := q3d q
   simp only [Bool.and_eq_true, beq_iff_eq] at hc
   obtain ⟨h1, h2⟩ := hc
   subst h1
   unfold evE at h
   exact (ha g h2).1 r h
  ·cases hc
 ·unfold corE at hc
  split at hc
  ·rename_i o es q
   obtain ⟨p, rfl⟩ := q3d q
   simp only [Bool.and_eq_true, beq_iff_eq] at hc
   obtain ⟨h1, h2⟩ := hc
   subst h1
   unfold evE at h
   exact ((ha g h2).2 r h).pt
  ·cases hc
end
section
variable {G : Gs} {F : Nat -> List DV -> Option Ou}
mutual
theorem snd : ∀ m : ME, S1 G F m
 | .var _ => z6W
 | .int _ => z6s
 | .bl _ => s_bl
 | .str _ => z6S
 | .non => z6h
 | .glb _ => z6u
 | .bin _ a b => z6O (snd a) (snd b)
 | .neg a => z7i (snd a)
 | .inv _ => q4l λ δ => by unfold evE; rfl
 | .not a => z6v (snd a)
 | .cmp _ a b => z6A (snd a) (snd b)
 | .chain _ _ a b c => z2X (snd a) (snd b) (snd c)
 | .and es => z6i (z1F es)
 | .or es => s_or (z4o es)
 | .ite c a b => z6L (snd c) (snd a) (snd b)
 | .lst es => z6V (sndL es)
 | .tup es => z6I (sndL es)
 | .dct _ _ => q4l λ δ => by unfold evE; rfl
 | .ix a b => s_ix (snd a) (snd b)
 | .sl a b c => s_sl (snd a) (snd b) (snd c)
 | .slf a b => z6w (snd a) (snd b)
 | .slt a b => z6l (snd a) (snd b)
 | .call _ es => z5p (sndL es)
 | .bi _ es => s_bi (sndL es)
 | .isi a _ => z6F (snd a)
 | .isx _ _ => q4l λ δ => by unfold evE; rfl
 | .meth _ a _ => z4B (snd a)
 | .comp a _ b _ => z4D (snd a) (snd b)
 | .compi a _ b c _ => z2F (snd a) (snd b) (snd c)
 | .gdx _ b => z7b (snd b)
 | .idx _ _ => q4l λ δ => by unfold evE; rfl
 | .rng es => z7c (sndL es)
 | .zp _ _ => q4l λ δ => by unfold evE; rfl
 | .enu a => z6R (snd a)
 | .itm _ => q4l λ δ => by unfold evE; rfl
 | .rvs _ => q4l λ δ => by unfold evE; rfl
theorem sndL : ∀ ms : List ME, SEs G F ms
 | [] => z6e
 | a :: ms => z5B (snd a) (sndL ms)
theorem z1F : ∀ ms : List ME, SAnd G F ms
 | [] => z2e
 | a :: ms => z0g (snd a) (z1F ms)
theorem z4o : ∀ ms : List ME, SOr G F ms
 | [] => z4T
 | a :: ms => z2A (snd a) (z4o ms)
end
end
end L2
end
section
namespace L2
open PySem PySem.Spec PyProof.Rows
section
variable (G : Gs) (F : Nat -> List DV -> Option Ou) (fu : Nat)
noncomputable def SS (m : MS) : Prop := ∀ {sg : Sg} {X : Cx} {E : St -> XK} {st : Stmt} {δ : List Sv} {o : Out}, Good sg G F X E -> corS sg m st = true -> evS G F fu m δ = some o -> PS X st (dS X.D E δ o)
noncomputable def SSs (ms : List MS) : Prop := ∀ {sg : Sg} {X : Cx} {E : St -> XK} {sts : List Stmt} {δ : List Sv} {o : Out}, Good sg G F X E -> q2K sg ms sts = true -> evSs G F fu ms δ = some o -> PSs X sts (dS X.D E δ o)
end
section
variable {G : Gs} {F : Nat -> List DV -> Option Ou} {fu : Nat} {e k : ME} {i : Nat}
theorem z5g : ∀ {e : ME}, q9E e = true -> q4u G F e
 | .comp a _ b _, _ => z1t (snd a) (snd b)
 | .compi a _ b c _, _ => q8M (snd a) (snd b) (snd c)
theorem z6U {own : Bool} : SS G F fu (.set i own e) := by
 intro sg X E st δ o g hc h
 unfold corS at hc
 split at hc
 ·rename_i t v pos
  split at hc
  ·rename_i x pt
   simp only [Bool.and_eq_true, beq_iff_eq, Bool.or_eq_true, Bool.not_eq_true'] at hc
   obtain ⟨⟨⟨h1, h2⟩, h3⟩, h4⟩ := hc
   have l := g.loc x h2
   have hN : X.N[i]? = some x := by rw [g.N]; exact h1
   unfold evS at h
   cases hv : q4B v with
   | false => exact q9U g.nd hN l.1 l.2 (λ z hz => (snd e).1 g h3 hz) (q3w hv) h
   | true =>
    rcases h4 with h4 | h5
    ·rw [hv] at h4; cases h4
    ·cases hr : evE G F e δ with
     | none => rw [hr] at h; cases h
     | some r =>
      obtain ⟨cp, N', fr, tg, p, rfl, S, P, hG, hs⟩ := z5g h5 g h3 hr
      cases hb : (X.env.blockKind == .function && X.env.kindOf x == some .local && pt.line == (Expr.ListComp cp.elt [⟨cp.tg, cp.it, cp.ifs, 0⟩] cp.sc p).pos.line && !(cp.sc.names.any λ (n, k) => n == x && (k == .local || k == .cell))) with
      | false =>
       have hsw : swapsWith (.ListComp cp.elt [⟨cp.tg, cp.it, cp.ifs, 0⟩] cp.sc p) (some (.Name x pt)) pos.line X.env = pure false := by
        show (pure (X.env.blockKind == .function && X.env.kindOf x == some .local && pt.line == (Expr.ListComp cp.elt [⟨cp.tg, cp.it, cp.ifs, 0⟩] cp.sc p).pos.line && !(cp.sc.names.any λ (n, k) => n == x && (k == .local || k == .cell))) : Sem Bool) = pure false
        rw [hb]
       exact q9U g.nd hN l.1 l.2 (λ z hz => (snd e).1 g h3 hz) hsw h
      | true =>
       have hsw : swapsWith (.ListComp cp.elt [⟨cp.tg, cp.it, cp.ifs, 0⟩] cp.sc p) (some (.Name x pt)) pos.line X.env = pure true := by
        show (pure (X.env.blockKind == .function && X.env.kindOf x == some .local && pt.line == (Expr.ListComp cp.elt [⟨cp.tg, cp.it, cp.ifs, 0⟩] cp.sc p).pos.line && !(cp.sc.names.any λ (n, k) => n == x && (k == .local || k == .cell))) : Sem Bool) = pure true
        rw [hb]
       rw [hr] at h
       have h4 : X.env.kindOf x = some .local := by
        simp only [Bool.and_eq_true, beq_iff_eq] at hb
        exact hb.1.1.2
       exact q6u S g.calm g.nd hN h4 P hG hs hsw h
  ·cases hc
 ·cases hc
theorem z6m : SS G F fu (.app i e) := by
 intro sg X E st δ o g hc h
 unfold corS at hc
 split at hc
 ·rename_i v pos
  split at hc
  ·rename_i ef ea cpos q
   have := q0E q
   subst this
   split at hc
   ·rename_i ob n apos q2
    have := q5T q2
    subst this
    simp only [Bool.and_eq_true, Bool.not_eq_true'] at hc
    obtain ⟨⟨⟨⟨h1, h2⟩, h3⟩, h4⟩, h5⟩ := hc
    split at h2
    ·rename_i x q3
     obtain ⟨np, rfl⟩ := q0G q3
     obtain ⟨s1, s2, s3, s4⟩ := q6F g h2
     have hn : n = "append" := beq_iff_eq.mp h1
     subst hn
     unfold evS at h
     exact q7O (q9L s1 s2 s3 s4) (λ z hz => (snd e).1 g h3 hz) h4 h5 h
    ·cases h2
   ·cases hc
  ·cases hc
 ·cases hc
theorem z4c : SS G F fu (.seti i k e) := by
 intro sg X E st δ o g hc h
 unfold corS at hc
 split at hc
 ·rename_i t v pos
  split at hc
  ·rename_i ob ek q
   obtain ⟨sp, rfl⟩ := q1k q
   simp only [Bool.and_eq_true, Bool.not_eq_true'] at hc
   obtain ⟨⟨⟨h2, h3⟩, h4⟩, h5⟩ := hc
   split at h2
   ·rename_i x q3
    obtain ⟨np, rfl⟩ := q0G q3
    obtain ⟨s1, s2, s3, s4⟩ := q6F g h2
    unfold evS at h
    exact q9S (q9L s1 s2 s3 s4) (λ z hz => (snd e).1 g h5 hz) (λ z hz => (snd k).1 g h3 hz) h4 h
   ·cases h2
  ·cases hc
 ·cases hc
theorem z6E : SS G F fu (.exp e) := by
 intro sg X E st δ o g hc h
 unfold corS at hc
 split at hc
 ·simp only [Bool.and_eq_true, Bool.not_eq_true'] at hc
  unfold evS at h
  exact z3z (λ z hz => (snd e).1 g hc.1 hz) hc.2 h
 ·cases hc
theorem z6r : SS G F fu (.ret e) := by
 intro sg X E st δ o g hc h
 unfold corS at hc
 split at hc
 ·unfold evS at h
  exact z2c (λ z hz => (snd e).1 g hc hz) h
 ·cases hc
theorem z3W {es : List ME} : SS G F fu (.ret0 es) := by
 intro sg X E st δ o g hc h
 unfold corS at hc
 split at hc
 ·rename_i v pos
  split at hc
  ·rename_i es' q
   obtain ⟨kk, tp, rfl⟩ := q3f q
   unfold evS at h
   exact z0L (λ z hz => sndL es g hc hz) h
  ·cases hc
 ·cases hc
theorem z4Y : SS G F fu .retn := by
 intro sg X E st δ o g hc h
 unfold corS at hc
 split at hc
 ·unfold evS at h
  cases h
  exact z0C
 ·cases hc
theorem z6q : SS G F fu .pas := by
 intro sg X E st δ o g hc h
 unfold corS at hc
 split at hc
 ·unfold evS at h
  cases h
  exact z1n
 ·cases hc
theorem z7j {c : Str} : SS G F fu (.rse c e) := by
 intro sg X E st δ o g hc h
 unfold corS at hc
 split at hc
 ·rename_i v pos
  split at hc
  ·rename_i ef ea cpos q
   have := q0E q
   subst this
   simp only [Bool.and_eq_true, Bool.not_eq_true', beq_iff_eq, bne_iff_ne, ne_eq] at hc
   obtain ⟨⟨⟨⟨⟨h0, h1⟩, h2⟩, h3⟩, h4⟩, h5⟩ := hc
   obtain ⟨np, rfl⟩ := q0G h1
   unfold evS at h
   exact q9t g.xf g.calm (g.glo c h2) (beq_eq_false_iff_ne.mpr h3) (g.st h0).2.2.2 (λ z hz => (snd e).1 g h4 hz) h5 h
  ·cases hc
 ·cases hc
theorem q3A {m : MS} (h : ∀ δ, evS G F fu m δ = none) : SS G F fu m := by
 intro sg X E st δ o g hc q
 rw [h] at q; cases q
theorem z6z : SS G F fu (.frz i) := by
 intro sg X E st δ o g hc h
 unfold corS at hc
 cases hc
variable {a b body : List MS} {c : ME} {tg : Tg}
theorem z6K (ha : SSs G F fu a) (hb : SSs G F fu b) : SS G F fu (.iff c a b) := by
 intro sg X E st δ o g hc h
 unfold corS at hc
 split at hc
 ·simp only [Bool.and_eq_true] at hc
  unfold evS at h
  exact z3S (λ z hz => (snd c).2.1 g hc.1.1 hz) (λ z hz => ha g hc.1.2 hz) (λ z hz => hb g hc.2 hz) h
 ·cases hc
theorem t_fo (hb : SSs G F fu body) : SS G F fu (.fo tg e body) := by
 intro sg X E st δ o g hc h
 unfold corS at hc
 split at hc
 ·simp only [Bool.and_eq_true, Bool.not_eq_true', Bool.or_eq_true] at hc
  obtain ⟨⟨⟨⟨h0, h1⟩, h2, h3⟩, h4⟩, h5⟩ := hc
  unfold evS at h
  exact z2D (g.own h0) g.calm (λ z hz => (snd e).2.2 g h2 (λ w => by
   rcases h3 with q | q
   ·rw [w] at q; cases q
   ·exact q) hz) (q8w g h1) (λ δ' o' ho => hb g h5 ho) h4 h
 ·cases hc
theorem t_wh (hb : SSs G F fu body) : SS G F fu (.wh c body) := by
 intro sg X E st δ o g hc h
 unfold corS at hc
 split at hc
 ·simp only [Bool.and_eq_true] at hc
  unfold evS at h
  exact q9O (g.own hc.1.1) (λ δ' r hr => (snd c).2.1 g hc.1.2 hr) (λ δ' o' ho => hb g hc.2 ho) h
 ·cases hc
theorem z5i : SSs G F fu [] := by
 intro sg X E sts δ o g hc h
 cases sts with
 | nil => unfold evSs at h; cases h; exact z2l
 | cons a b => unfold q2K at hc; cases hc
theorem z3P {ms : List MS} (hb : SSs G F fu ms) : SSs G F fu (.frz i :: ms) := by
 intro sg X E sts δ o g hc h
 have hc' : q2K sg ms sts = true := by unfold q2K at hc; exact hc
 unfold evSs at h
 have key : evS G F fu (.frz i) δ = (match δ[i]? with | some (.own d) => some (.nx (δ.set i (.val d))) | _ => some (.nx δ)) := by unfold evS; rfl
 rw [key] at h
 cases q : δ[i]? with
 | none => rw [q] at h; exact hb g hc' h
 | some sv =>
  rw [q] at h
  cases sv with
  | own d => exact q7Y q (hb g hc' h)
  | no => exact hb g hc' h
  | val d => exact hb g hc' h
  | ot d => exact hb g hc' h
theorem q0M {m : MS} {ms : List MS} (ha : SS G F fu m) (hb : SSs G F fu ms) (hm : ∀ i, m ≠ .frz i) : SSs G F fu (m :: ms) := by
 intro sg X E sts δ o g hc h
 cases sts with
 | nil =>
  exfalso
  cases m <;> first | exact hm _ rfl | (unfold q2K at hc; cases hc)
 | cons st sts =>
  have hc' : corS sg m st = true /\ q2K sg ms sts = true := by
   cases m <;> first | exact absurd rfl (hm _) | (unfold q2K at hc; rw [Bool.and_eq_true] at hc; exact hc)
  unfold evSs at h
  split at h
  ·rename_i δ' q
   exact z0Q (ha g hc'.1 q) (hb g hc'.2 h)
  ·rename_i hne
   have A := ha g hc'.1 h
   cases o with
   | nx δ' => exact absurd h (hne δ')
   | rt d fr => exact z4r A
   | rtt d => exact z3o A
   | ex c δ' => exact z4F A
end
section
variable {G : Gs} {F : Nat -> List DV -> Option Ou} {fu : Nat}
mutual
theorem sndS : ∀ m : MS, SS G F fu m
 | .set _ _ _ => z6U
 | .sett _ _ => q3A λ δ => by unfold evS; rfl
 | .par _ _ => q3A λ δ => by unfold evS; rfl
 | .aug _ _ => q3A λ δ => by unfold evS; rfl
 | .app _ _ => z6m
 | .ext _ _ => q3A λ δ => by unfold evS; rfl
 | .seti _ _ _ => z4c
 | .clr _ => q3A λ δ => by unfold evS; rfl
 | .pop _ _ => q3A λ δ => by unfold evS; rfl
 | .exp _ => z6E
 | .ret _ => z6r
 | .retn => z4Y
 | .ret0 _ => z3W
 | .app0 _ _ => q3A λ δ => by unfold evS; rfl
 | .iff _ a b => z6K (q1y a) (q1y b)
 | .fo _ _ body => t_fo (q1y body)
 | .wh _ body => t_wh (q1y body)
 | .rse _ _ => z7j
 | .tryc _ _ _ _ => q3A λ δ => by unfold evS; rfl
 | .pas => z6q
 | .frz _ => z6z
theorem q1y : ∀ ms : List MS, SSs G F fu ms
 | [] => z5i
 | .frz _ :: ms => z3P (q1y ms)
 | .set i o e :: ms => q0M (sndS (.set i o e)) (q1y ms) (by intro i z; cases z)
 | .sett i o :: ms => q0M (sndS (.sett i o)) (q1y ms) (by intro i z; cases z)
 | .par i o :: ms => q0M (sndS (.par i o)) (q1y ms) (by intro i z; cases z)
 | .aug i o :: ms => q0M (sndS (.aug i o)) (q1y ms) (by intro i z; cases z)
 | .app i o :: ms => q0M (sndS (.app i o)) (q1y ms) (by intro i z; cases z)
 | .ext i o :: ms => q0M (sndS (.ext i o)) (q1y ms) (by intro i z; cases z)
 | .seti i k o :: ms => q0M (sndS (.seti i k o)) (q1y ms) (by intro i z; cases z)
 | .clr i :: ms => q0M (sndS (.clr i)) (q1y ms) (by intro i z; cases z)
 | .pop i o :: ms => q0M (sndS (.pop i o)) (q1y ms) (by intro i z; cases z)
 | .exp e :: ms => q0M (sndS (.exp e)) (q1y ms) (by intro i z; cases z)
 | .ret e :: ms => q0M (sndS (.ret e)) (q1y ms) (by intro i z; cases z)
 | .retn :: ms => q0M (sndS .retn) (q1y ms) (by intro i z; cases z)
 | .ret0 e :: ms => q0M (sndS (.ret0 e)) (q1y ms) (by intro i z; cases z)
 | .app0 i e :: ms => q0M (sndS (.app0 i e)) (q1y ms) (by intro i z; cases z)
 | .iff c a b :: ms => q0M (sndS (.iff c a b)) (q1y ms) (by intro i z; cases z)
 | .fo t i b :: ms => q0M (sndS (.fo t i b)) (q1y ms) (by intro i z; cases z)
 | .wh c b :: ms => q0M (sndS (.wh c b)) (q1y ms) (by intro i z; cases z)
 | .rse c e :: ms => q0M (sndS (.rse c e)) (q1y ms) (by intro i z; cases z)
 | .tryc a b c d :: ms => q0M (sndS (.tryc a b c d)) (q1y ms) (by intro i z; cases z)
 | .pas :: ms => q0M (sndS .pas) (q1y ms) (by intro i z; cases z)
end
end
end L2
end
section
namespace L2
open PySem PySem.Spec PyProof.Rows
theorem RSt.start {D : Dm} {H : Hp} {N : List Str} {ds : List DV} {vs : List V} {O : List Addr} {n : Nat} (hn : n = N.length) (r : RepL D (L2.wo O H) ds vs) (ho : ∀ a ∈ O, H a ≠ none) : RSt D H (L2.start N vs) (q0i n ds) O [] := by
 subst hn
 have ino : ∀ (i : Nat) ds', (q0i N.length ds)[i]? ≠ some (.own ds') := λ i ds' h => by
  unfold q0i at h
  by_cases hi : i < (ds.map Sv.val).length
  ·rw [List.getElem?_append_left hi, List.getElem?_map] at h
   cases q : ds[i]? with
   | none => rw [q] at h; cases h
   | some d => rw [q] at h; cases h
  ·rw [List.getElem?_append_right (by omega), List.getElem?_replicate] at h
   split at h <;> cases h
 have iot : ∀ (i : Nat) ds', (q0i N.length ds)[i]? ≠ some (.ot ds') := λ i ds' h => by
  unfold q0i at h
  by_cases hi : i < (ds.map Sv.val).length
  ·rw [List.getElem?_append_left hi, List.getElem?_map] at h
   cases q : ds[i]? with
   | none => rw [q] at h; cases h
   | some d => rw [q] at h; cases h
  ·rw [List.getElem?_append_right (by omega), List.getElem?_replicate] at h
   split at h <;> cases h
 refine ⟨λ i d h => ?_, λ i ds' h => absurd h (ino i ds'), λ i j a d1 d2 h => absurd h (ino i d1), λ i d h => absurd h (iot i d), ?_, ⟨λ a ha => ho a (by simpa using ha), Same.refl _, λ a ha => (nomatch ha), λ a ha => (nomatch ha)⟩⟩
 ·unfold q0i at h
  by_cases hi : i < (ds.map Sv.val).length
  ·rw [List.getElem?_append_left hi, List.getElem?_map] at h
   cases q : ds[i]? with
   | none => rw [q] at h; cases h
   | some d' =>
    rw [q] at h
    cases h
    obtain ⟨v, e1, e2⟩ := r.get q
    refine ⟨v, ?_, by rw [List.append_nil]; exact e2⟩
    unfold L2.start
    rw [List.getElem?_append_left (by rw [List.length_map]; exact (List.getElem?_eq_some_iff.mp e1).1), List.getElem?_map, e1]
    rfl
  ·rw [List.getElem?_append_right (by omega), List.getElem?_replicate] at h
   split at h <;> cases h
 ·unfold L2.start q0i
  rw [List.length_append, List.length_append, List.length_map, List.length_map, List.length_replicate, List.length_replicate, r.length]
structure Stands (K : PySem.W.Frag) (mg : Str -> Option Value) (fn bl cl : List Str) (d : FD) (x : Str) (fa : Addr) (fd : FuncData) (ps : List Str) : Prop where
 mg : mg x = some (.ref fa)
 kp : PySem.W.keepIn K (.ref fa) = true
 bi : q6m K fd ps []
 np : d.np = ps.length
 ex : ∃ qual st N, Fun K x qual st fa fd /\ FnScope N ps (q0d st) /\ d.n = N.length /\ q2K ⟨N, (q0d st).names, fn, bl, cl, true, true⟩ d.body (q0j st) = true
section
variable {P : Program} {w : World} {K : PySem.W.Frag} {mg : Str -> Option Value} {base : Heap} {G : Gs} {T : List FD} {fu : Nat} {fn bl cl : List Str}
theorem z1M (hT : T.length = fn.length) (hs : ∀ (i : Nat) d x, T[i]? = some d -> fn[i]? = some x -> ∃ fa fd ps, Stands K mg fn bl cl d x fa fd ps) (hbl : ∀ x ∈ bl, mg x = none) (hxf : XFacts K mg G cl)
  (hcon : ∀ x d, G.con.lookup x = some d -> ∃ u v, mg x = some u /\ RelV v u /\ ∀ H, Rep ⟨K, mg⟩ H d v) (hdc : ∀ x kvs, G.dcs.lookup x = some kvs -> q9M K w mg x kvs) : ∀ (k i : Nat) d x fa fd ps, T[i]? = some d -> fn[i]? = some x -> Stands K mg fn bl cl d x fa fd ps ->
  FnOk P w K mg base (CXx P w base) k fa fd ps (spF ⟨K, mg⟩ ps.length (run G T fu k i))
 | 0, i, d, x, fa, fd, ps, h1, h2, S => by
  refine ⟨λ vs H Q E h => ?_, λ A outer s H args us vs Q E hr he hb hv h => ?_⟩
  ·obtain ⟨_, _, _, _, _, _, q, _⟩ := h
   cases q
  ·obtain ⟨_, _, _, _, _, _, q, _⟩ := h
   cases q
 | k + 1, i, d, x, fa, fd, ps, h1, h2, S => by
  obtain ⟨qual, st, N, F, FS, hn, hc⟩ := S.ex
  refine F.okX FS (λ vs H Q E h => ?_) (λ cdv A outer s H vs Q E hr h => ?_)
  ·obtain ⟨O, ds, o, _, e1, e2, _⟩ := h
   rw [e2.length, e1]
  ·obtain ⟨O, ds, o, ho, e1, e2, e3, e4⟩ := h
   have e3' : (match T[i]? with | none => none | some fd => if ds.length = fd.np then Ou.of (evSs G (run G T fu k) fu fd.body (q0i fd.n ds)) else none) = some o := e3
   rw [h1] at e3'
   have e3'' : (if ds.length = d.np then Ou.of (evSs G (run G T fu k) fu d.body (q0i d.n ds)) else none) = some o := e3'
   rw [if_pos (e1.trans S.np.symm)] at e3''
   have g : Good ⟨N, (q0d st).names, fn, bl, cl, true, true⟩ G (run G T fu k) (cxD P w K mg base N qual (q0d st) fa cdv A outer s H E) (λ _ => E) := by
    refine ⟨rfl, FS.nd, λ y hy => ?_, λ y hy => ?_, λ y hy => ⟨?_, .inl rfl⟩, λ y hy => hy, λ y hy => hy, rfl, hr.units, λ f y hy => ?_, hbl, q7M.s, hcon, λ _ => PassesOwn.leaving, hxf, λ _ => ⟨rfl, rfl, rfl, q7W⟩, hdc⟩
    ·unfold visB at hy
     simp only [Bool.or_eq_true, beq_iff_eq] at hy
     rcases hy with (hy | hy) | hy
     ·exact .inl hy
     ·exact .inr (.inl hy)
     ·exact .inr (.inr hy)
    ·unfold gloB at hy
     rw [beq_iff_eq] at hy
     exact hy
    ·unfold locB at hy
     simp only [Bool.or_eq_true, beq_iff_eq] at hy
     exact hy
    ·have hf : f < T.length := by rw [hT]; exact (List.getElem?_eq_some_iff.mp hy).1
     obtain ⟨d', hd'⟩ : ∃ d', T[f]? = some d' := ⟨_, List.getElem?_eq_getElem hf⟩
     obtain ⟨fa', fd', ps', S'⟩ := hs f d' y hd' hy
     refine ⟨k, fa', fd', ps', hr, S'.mg, S'.kp, S'.bi, λ ds o q => ?_, z1M hT hs hbl hxf hcon hdc k f d' y fa' fd' ps' hd' hy S'⟩
     cases k with
     | zero => cases q
     | succ k =>
      have q' : (match T[f]? with | none => none | some fd => if ds.length = fd.np then Ou.of (evSs G (run G T fu k) fu fd.body (q0i fd.n ds)) else none) = some o := q
      rw [hd'] at q'
      have q'' : (if ds.length = d'.np then Ou.of (evSs G (run G T fu k) fu d'.body (q0i d'.n ds)) else none) = some o := q'
      split at q''
      ·rename_i z; rw [z, S'.np]
      ·cases q''
   cases ho' : evSs G (run G T fu k) fu d.body (q0i d.n ds) with
   | none => rw [ho'] at e3''; cases e3''
   | some oo =>
    rw [ho'] at e3''
    refine ⟨_, q1y d.body g hc ho', H, O, [], RSt.start hn e2 ho, (λ a ha => (nomatch ha)), ho, Same.refl H, ?_⟩
    cases oo with
    | nx δ => cases e3''; exact λ σ' H' W R fr sm => e4 .non H' sm (show Rep ⟨K, mg⟩ (L2.wo O H') .non .non by unfold Rep; rfl)
    | rt d fr => cases e3''; exact λ v H' sm gt => e4 v H' sm gt
    | rtt d => cases e3''; exact λ v H' sm gt => e4 v H' sm gt
    | ex c δ => cases e3''; exact λ σ' H' W C hm R fr sm => e4 H' C hm sm
end
end L2
end
section
namespace L2
open PySem PySem.Spec PyProof.Rows
noncomputable def okD (fn bl cl : List Str) (d : FD) (N ps : List Str) (st : Stmt) : Bool :=
 (q0d st).kind == .function && !(q0d st).isCoroutine && !(q0d st).isGenerator && q4D N && (N.take ps.length == ps) &&
 ps.all (λ x => (q0d st).names.lookup x == some .local || (q0d st).names.lookup x == some .cell) && (q0d st).names.all (λ y => !(y.2 == .free)) &&
 d.n == N.length && d.np == ps.length && q2K ⟨N, (q0d st).names, fn, bl, cl, true, true⟩ d.body (q0j st)
section
variable {P : Program} {w : World} {K : PySem.W.Frag} {mg : Str -> Option Value} {base h : Heap} {G : Gs} {T : List FD} {fu : Nat} {fn bl cl : List Str}
theorem q0h {d : FD} {x : Str} {N ps : List Str} {st : Stmt} {f : Addr} {oc : Value} {od an : Option Addr} {osl : Array (Option Value)} {kV doc pm cdv ct : Value} (X : K.In h) (Ns : h.Ns mainGlobals mg) (ok : okD fn bl cl d N ps st = true)
  (a : PySem.W.nsIn K mainGlobals x = some (some (.ref f))) (l : K.lookup f = some ⟨oc, od, .func (PySem.W.fnOf x x (q0n st) (q0j st) (q0d st) .none kV doc pm an cdv ct), osl⟩)
  (c : PySem.W.codeIn K cdv x = true) (k : PySem.W.keepIn K (.ref f) = true)
  (hb : ∀ (kV doc pm : Value) (an : Option Addr) (cdv ct : Value) (us : List Value), us.length = ps.length -> bindArgs (PySem.W.fnOf x x (q0n st) (q0j st) (q0d st) .none kV doc pm an cdv ct) ⟨us, []⟩ = pure (ps.zip us)) :
  Stands K mg fn bl cl d x f (PySem.W.fnOf x x (q0n st) (q0j st) (q0d st) .none kV doc pm an cdv ct) ps := by
 have F := z4m (st := st) l c k
 unfold okD at ok
 simp only [Bool.and_eq_true, beq_iff_eq, Bool.not_eq_true', List.all_eq_true, Bool.or_eq_true, beq_eq_false_iff_ne] at ok
 obtain ⟨⟨⟨⟨⟨⟨⟨⟨⟨h1, h2⟩, h3⟩, h4⟩, h5⟩, h6⟩, h7⟩, h8⟩, h9⟩, h10⟩ := ok
 exact ⟨PySem.W.mg_of X Ns a, k, F.binds hb, h9, x, st, N, F, ⟨h1, h2, h3, q2v h4, h5, h6, h7⟩, h8, h10⟩
noncomputable def HS (K : PySem.W.Frag) (mg : Str -> Option Value) (fn bl cl : List Str) (T : List FD) (fs : List Str) : Prop := ∀ (i : Nat) d x, T[i]? = some d -> fs[i]? = some x -> ∃ fa fd ps, Stands K mg fn bl cl d x fa fd ps
theorem z4g {fs : List Str} : HS K mg fn bl cl [] fs := λ i d x h => by cases h
theorem q0w {d : FD} {x : Str} {fs : List Str} {fa : Addr} {fd : FuncData} {ps : List Str} (h : Stands K mg fn bl cl d x fa fd ps) (t : HS K mg fn bl cl T fs) : HS K mg fn bl cl (d :: T) (x :: fs) := λ i d' x' h1 h2 => by
 cases i with
 | zero => cases h1; cases h2; exact ⟨_, _, _, h⟩
 | succ i => exact t i d' x' h1 h2
theorem z5h {H : Hp} : L2.wo [] H = H := by
 funext b
 unfold L2.wo
 simp
noncomputable def HC (K : PySem.W.Frag) (mg : Str -> Option Value) (c : List (Str × DV)) : Prop := ∀ x d, c.lookup x = some d -> ∃ u v, mg x = some u /\ RelV v u /\ ∀ H, Rep ⟨K, mg⟩ H d v
theorem z3f : HC K mg [] := λ x d h => by cases h
theorem q3M {c : List (Str × DV)} {y : Str} {d : DV} (h : ∃ u v, mg y = some u /\ RelV v u /\ ∀ H, Rep ⟨K, mg⟩ H d v) (t : HC K mg c) : HC K mg ((y, d) :: c) := λ x d' q => by
 rw [List.lookup_cons] at q
 split at q
 ·rename_i e
  cases q
  rw [eq_of_beq e]
  exact h
 ·exact t x d' q
noncomputable def OneL (K : PySem.W.Frag) (mg : Str -> Option Value) (G : Gs) (cl : List Str) (l : List (Str × List Str)) : Prop := ∀ c, (l.lookup c).isSome = true -> ∃ C, XOne K mg G cl c C
theorem z2E {cl : List Str} : OneL K mg G cl [] := λ c h => by cases h
theorem q7w {cl : List Str} {c : Str} {b : List Str} {l : List (Str × List Str)} (h : ∃ C, XOne K mg G cl c C) (t : OneL K mg G cl l) : OneL K mg G cl ((c, b) :: l) := λ c' q => by
 rw [List.lookup_cons] at q
 split at q
 ·rename_i e
  rw [eq_of_beq e]
  exact h
 ·exact t c' q
noncomputable def AllL (mg : Str -> Option Value) (l : List Str) : Prop := ∀ t ∈ l, ∃ Ct, mg t = some (.ref Ct)
theorem z2N : AllL mg [] := λ t h => by cases h
theorem all_cons {t : Str} {l : List Str} (h : ∃ Ct, mg t = some (.ref Ct)) (r : AllL mg l) : AllL mg (t :: l) := λ t' q => by
 rcases List.mem_cons.mp q with e | e
 ·rw [e]; exact h
 ·exact r t' e
noncomputable def OwnL (K : PySem.W.Frag) (mg : Str -> Option Value) (G : Gs) (c : Str) (C : Addr) (l : List Str) : Prop := ∀ t ∈ l, ∀ Ct, mg t = some (.ref Ct) -> PySem.W.kitOne K (.ref C) (.ref Ct) = some (q2T G c t) /\ (q2T G c t = true -> PySem.W.exmOne K (.ref C) (.ref Ct) = some true)
theorem q9u {c : Str} {C : Addr} : OwnL K mg G c C [] := λ t h => by cases h
theorem q3P {c t : Str} {C Ct : Addr} {l : List Str} (m : mg t = some (.ref Ct)) (h : PySem.W.kitOne K (.ref C) (.ref Ct) = some (q2T G c t) /\ (q2T G c t = true -> PySem.W.exmOne K (.ref C) (.ref Ct) = some true)) (r : OwnL K mg G c C l) : OwnL K mg G c C (t :: l) := λ t' q Ct' m' => by
 rcases List.mem_cons.mp q with e | e
 ·subst e
  cases m.symm.trans m'
  exact h
 ·exact r t' e Ct' m'
noncomputable def spS (K : PySem.W.Frag) : Sp := λ vs H Q _ => ∃ (a : Addr) (ns : List Int), vs = [.ref a] /\ ns.length <= 63 /\ SqS K H a (ns.map V.int) /\ ∀ H', Q (.bl true) H'
noncomputable def DCL (K : PySem.W.Frag) (w : World) (mg : Str -> Option Value) (l : List (Str × List (Str × Str))) : Prop := ∀ x kvs, l.lookup x = some kvs -> q9M K w mg x kvs
theorem z2T {w : World} : DCL K w mg [] := λ x kvs h => by cases h
theorem z0b {w : World} {y : Str} {kv : List (Str × Str)} {l : List (Str × List (Str × Str))} (h : q9M K w mg y kv) (t : DCL K w mg l) : DCL K w mg ((y, kv) :: l) := λ x kvs q => by
 rw [List.lookup_cons] at q
 split at q
 ·rename_i e
  cases q
  rw [beq_iff_eq.mp e]
  exact h
 ·exact t x kvs q
noncomputable def KVL (K : PySem.W.Frag) (a : Addr) (l : List (Str × Str)) : Prop := ∀ k v, l.lookup k = some v -> v.length <= sizeLine /\ ∃ t, PySem.W.nsIn K a k = some (some (.str v t))
theorem z2h {a : Addr} : KVL K a [] := λ k v h => by cases h
theorem q6V {a : Addr} {k v : Str} {t : Tok} {l : List (Str × Str)} (h1 : v.length <= sizeLine) (h2 : PySem.W.nsIn K a k = some (some (.str v t))) (r : KVL K a l) : KVL K a ((k, v) :: l) := λ k' v' q => by
 rw [List.lookup_cons] at q
 split at q
 ·rename_i e
  cases q
  rw [beq_iff_eq.mp e]
  exact ⟨h1, t, h2⟩
 ·exact r k' v' q
theorem z0w {k i : Nat} {d : FD} {x p : Str} {fa : Addr} {fd : FuncData} (hT : T.length = fn.length) (hs : HS K mg fn bl cl T fn) (hbl : ∀ x ∈ bl, mg x = none) (hxf : XFacts K mg G cl)
  (hcon : ∀ x d, G.con.lookup x = some d -> ∃ u v, mg x = some u /\ RelV v u /\ ∀ H, Rep ⟨K, mg⟩ H d v) (hdc : ∀ x kvs, G.dcs.lookup x = some kvs -> q9M K w mg x kvs) (h1 : T[i]? = some d) (h2 : fn[i]? = some x) (S : Stands K mg fn bl cl d x fa fd [p])
  (law : ∀ ns : List Int, ns.length <= 63 -> run G T fu k i [.scr ns] = some (.v (.bl true) false)) : FnOk P w K mg base CX0 k fa fd [p] (spS K) := by
 have R := z1M (P := P) (w := w) (base := base) (fu := fu) hT hs hbl hxf hcon hdc k i d x fa fd [p] h1 h2 S
 refine ⟨λ vs H Q E h => ?_, λ A outer s H args us vs Q E hr he hb hv h => ?_⟩
 ·obtain ⟨a, ns, rfl, _⟩ := h
  rfl
 ·obtain ⟨a, ns, rfl, hl, hS, hq⟩ := h
  refine codeAny_mono (R.run A outer s H args us [.ref a] Q E0 hr he hb hv ⟨[], [.scr ns], _, (λ a ha => (nomatch ha)), rfl, ?_, law ns hl, λ v H' _ g => ?_⟩) λ r s' q => ?_
  ·refine RepL.one (q1M.mpr ⟨a, rfl, ?_⟩)
   rw [z5h]
   exact hS
  ·have g' : Rep ⟨K, mg⟩ (L2.wo [] H') (.bl true) v := g
   rw [q4f] at g'
   subst g'
   exact hq H'
  ·cases r with
   | error e =>
    obtain ⟨_, _, _, _, _, _, _, _, _, _, z⟩ := (q : CXx P w base outer H s E0 e s')
    exact z.elim
   | ok fl => cases fl <;> first | exact False.elim q | exact q
end
theorem walkE {l : PySem.W.OpenLaw} {q : Program} {loose : List Str} {XP : (Str -> Option Value) -> Heap -> Prop} {YP : World -> Heap -> Prop} {d : DefRec} {K : Params -> PySem.W.Frag} {k : Nat} {p : Str} (hn : l.most = some 63) (hdf : d.params.defaults = []) (hr : Room k callerA)
  (hY : ∀ (w : World) (h : Heap), YP w h -> (K w.params).In h)
  (F : ∀ (w : World) (mg : Str -> Option Value) (fa : Addr) (h : Heap), (K w.params).In h -> h.Ns mainGlobals mg -> mg d.name = some (.ref fa) ->
   ∃ fd : FuncData, (∀ (s : Shared) (u : Value), BindsTo s fd ⟨[u], []⟩ [(p, u)]) /\ ∀ base : Heap, (K w.params).In base -> base.Ns mainGlobals mg -> FnOk l.prog w (K w.params) mg base CX0 k fa fd [p] (spS (K w.params))) :
  PySem.W.WalkO q loose XP YP l.row.toRowW d [] (λ f vs => PySem.call f vs) :=
 L2.walk_of (n := 63) (k := k) (x := p) (CX := λ _ => CX0) (sp := λ w => spS (K w.params)) hn (by decide) hdf hr hY F (λ _ _ a ns hl hO hS => ⟨a, ns, rfl, hl, SqS.of hO hS, λ _ => rfl⟩) λ _ _ _ _ _ z => z
end L2
end
section
namespace L2
open PySem
section
variable {G : Gs} {F : Nat -> List DV -> Option Ou} {fu : Nat} {δ : List Sv}
theorem q0J {d : DV} {c : Cl} {k : DV -> Cl -> Option Re} : Re.thn (some (.ok d c)) k = k d c := rfl
theorem q2j {l : List (DV × Cl)} {k : List (DV × Cl) -> Option Re} : Rs.thn (some (.ok l)) k = k l := rfl
theorem q5q {ds : List DV} {c : Cl} {k : List DV -> Cl -> Option Re} : Ri.thn (some (.ok ds c)) k = k ds c := rfl
theorem q9Y {d : DV} {c : Cl} {k : DV -> Cl -> Option Out} : Re.thnS δ (some (.ok d c)) k = k d c := rfl
theorem z0f {ds : List DV} {c : Cl} {k : List DV -> Cl -> Option Out} : Ri.thnS δ (some (.ok ds c)) k = k ds c := rfl
theorem z4V {m : MS} {r : List MS} {δ' : List Sv} (h : evS G F fu m δ = some (.nx δ')) : evSs G F fu (m :: r) δ = evSs G F fu r δ' := by
 rw [show evSs G F fu (m :: r) δ = (match evS G F fu m δ with | some (.nx δ') => evSs G F fu r δ' | o => o) from rfl, h]
theorem z4p {m : MS} {r : List MS} {d : DV} {fr : Bool} (h : evS G F fu m δ = some (.rt d fr)) : evSs G F fu (m :: r) δ = some (.rt d fr) := by
 rw [show evSs G F fu (m :: r) δ = (match evS G F fu m δ with | some (.nx δ') => evSs G F fu r δ' | o => o) from rfl, h]
theorem q0u {T : List FD} {k f : Nat} {ds : List DV} {fd : FD} (h : T[f]? = some fd) (hl : ds.length = fd.np) : run G T fu (k + 1) f ds = Ou.of (evSs G (run G T fu k) fu fd.body (q0i fd.n ds)) := by
 show (match T[f]? with | none => none | some fd => if ds.length = fd.np then Ou.of (evSs G (run G T fu k) fu fd.body (q0i fd.n ds)) else none) = _
 rw [h]
 exact if_pos hl
end
end L2
namespace L2
open PySem
theorem q3j {g : DV -> Option Rc} {p : DV -> Bool} : ∀ {ds : List DV}, (∀ d ∈ ds, g d = some (if p d then .item d else .skip)) -> q0X g ds = some (ds.filter p)
 | [], _ => rfl
 | d :: r, h => by
  have h0 := h d (List.mem_cons_self ..)
  have ih := q3j (ds := r) (λ d hd => h d (List.mem_cons_of_mem _ hd))
  unfold q0X
  rw [h0]
  cases hp : p d with
  | false => rw [List.filter_cons_of_neg (by rw [hp]; exact Bool.false_ne_true)]; exact ih
  | true =>
   rw [List.filter_cons_of_pos hp]
   show (match q0X g r with | none => none | some xs => some (d :: xs)) = _
   rw [ih]
theorem q3s {g : DV -> Option Rc} {f : DV -> DV} : ∀ {ds : List DV}, (∀ d ∈ ds, g d = some (.item (f d))) -> q0X g ds = some (ds.map f)
 | [], _ => rfl
 | d :: r, h => by
  have h0 := h d (List.mem_cons_self ..)
  have ih := q3s (ds := r) (λ d hd => h d (List.mem_cons_of_mem _ hd))
  unfold q0X
  rw [h0]
  show (match q0X g r with | none => none | some xs => some (f d :: xs)) = _
  rw [ih]
  rfl
theorem q5w {lo : Int} {n : Nat} {d : DV} (h : d ∈ upTo lo n) : ∃ j : Nat, j < n /\ d = .int (lo + j) := by
 unfold upTo at h
 rw [List.mem_map] at h
 obtain ⟨j, hj, rfl⟩ := h
 exact ⟨j, List.mem_range.mp hj, rfl⟩
end L2
namespace L2
open PySem
section
variable {G : Gs} {F : Nat -> List DV -> Option Ou} {fu : Nat} {δ δ' : List Sv} {m : MS} {r a b body : List MS} {o : Option Out} {c it : ME} {d : DV} {fr : Bool} {tg : Tg} {ds : List DV} {cl : Cl}
theorem q0W (h : evSs G F fu r δ = some (.rt d fr)) : Ou.of (evSs G F fu r δ) = some (.v d fr) := by rw [h]; rfl
theorem q0F (h : evS G F fu m δ = some (.nx δ')) (h2 : evSs G F fu r δ' = o) : evSs G F fu (m :: r) δ = o := (z4V h).trans h2
theorem q0T (h : evS G F fu m δ = some (.rt d fr)) : evSs G F fu (m :: r) δ = some (.rt d fr) := z4p h
theorem z4i {bb : Bool} (hc : tstD (evE G F c δ) = some (.ok bb)) : evS G F fu (.iff c a b) δ = if bb then evSs G F fu a δ else evSs G F fu b δ := by
 show Rt.thnS δ (tstD (evE G F c δ)) (λ k => if k then evSs G F fu a δ else evSs G F fu b δ) = _
 rw [hc]; rfl
theorem z4U (hc : tstD (evE G F c δ) = some (.ok false)) (h : evSs G F fu b δ = some (.nx δ')) (h2 : evSs G F fu r δ' = o) : evSs G F fu (.iff c a b :: r) δ = o := q0F ((z4i hc).trans h) h2
theorem q2o (hc : tstD (evE G F c δ) = some (.ok true)) (h : evSs G F fu a δ = some (.rt d fr)) : evSs G F fu (.iff c a b :: r) δ = some (.rt d fr) := q0T ((z4i hc).trans h)
theorem q1m (hc : tstD (evE G F c δ) = some (.ok false)) (h2 : evSs G F fu r δ = o) : evSs G F fu (.iff c a [] :: r) δ = o := z4U hc rfl h2
theorem q6k (hw : q1b (evE G F it δ) = some (.ok ds cl)) (hc : cl = .strong \/ cl = .fresh) (h : q1q tg (λ δ' => evSs G F fu body δ') ds δ = some (.nx δ')) (h2 : evSs G F fu r δ' = o) : evSs G F fu (.fo tg it body :: r) δ = o := by
 refine q0F ?_ h2
 show Ri.thnS δ (q1b (evE G F it δ)) (λ ds c => if c = .strong \/ c = .fresh then q1q tg (λ δ' => evSs G F fu body δ') ds δ else none) = _
 rw [hw]
 show (if cl = .strong \/ cl = .fresh then q1q tg (λ δ' => evSs G F fu body δ') ds δ else none) = _
 rw [if_pos hc]
 exact h
theorem q0y {i : Nat} {e : ME} (h : evE G F e δ = some (.ok d cl)) (hs : stro d cl = true) : evS G F fu (.set i false e) δ = some (.nx (δ.set i (.val d))) := by
 show Re.thnS δ (evE G F e δ) (λ d c => if false then q4d i δ d c else (if stro d c then some (.nx (δ.set i (.val d))) else none)) = _
 rw [h]
 show (if stro d cl then some (Out.nx (δ.set i (.val d))) else none) = _
 rw [if_pos hs]
theorem q9C {i : Nat} {e : ME} (h : evE G F e δ = some (.ok d .fresh)) : evS G F fu (.set i true e) δ = some (.nx (δ.set i (.own d))) := by
 show Re.thnS δ (evE G F e δ) (λ d c => if true then q4d i δ d c else (if stro d c then some (.nx (δ.set i (.val d))) else none)) = _
 rw [h]
 rfl
theorem q0P {e : ME} (h : evE G F e δ = some (.ok d cl)) (hc : cl ≠ .ft := by first | decide | (intro z; cases z)) : evS G F fu (.ret e) δ = some (.rt d (frD d cl)) := by
 show Re.thnS δ (evE G F e δ) (λ d c => some (retD d c)) = _
 rw [h]
 show some (retD d cl) = _
 cases cl <;> first | rfl | exact absurd rfl hc
theorem q0f {f : Nat} {es : List ME} {l : List (DV × Cl)} (ha : evEs G F es δ = some (.ok l)) (hs : (l.all λ p => p.2 == .strong || p.2 == .fresh) = true) (h : F f (l.map (·.1)) = some (.v d fr)) : evE G F (.call f es) δ = some (.ok d (if fr then .fresh else .strong)) := by
 show Rs.thn (evEs G F es δ) (λ l => q4x F f l) = _
 rw [ha]
 show q4x F f l = _
 unfold q4x
 rw [h, hs]
 rfl
theorem q0r {e : ME} {x : Bool} (h : evE G F e δ = some (.ok (.bl x) cl)) : tstD (evE G F e δ) = some (.ok x) := by rw [h]; rfl
theorem q4c {e : ME} {x : Bool} (h : evE G F e δ = some (.ok (.bl x) cl)) : evE G F (.not e) δ = some (.ok (.bl (!x)) .strong) := by
 show Re.thn (evE G F e δ) (λ x _ => (q2n x).map λ k => .ok (.bl (!k)) .strong) = _
 rw [h]; rfl
end
end L2
namespace L2
open PySem
section
variable {G : Gs} {F : Nat -> List DV -> Option Ou} {fu : Nat} {δ δ' : List Sv} {a b : ME} {x y : DV} {cx cy : Cl}
theorem q4g {op : Operator} {r : Option Re} (ha : evE G F a δ = some (.ok x cx)) (hb : evE G F b δ = some (.ok y cy)) (h : binD op x y cx cy = r) : evE G F (.bin op a b) δ = r := by
 show Re.thn (evE G F a δ) (λ x cx => Re.thn (evE G F b δ) λ y cy => binD op x y cx cy) = _
 rw [ha, q0J, hb, q0J, h]
theorem q1B {op : CmpOp} {t : Bool} (ha : evE G F a δ = some (.ok x cx)) (hb : evE G F b δ = some (.ok y cy)) (h : cmpD op x y = some t) : evE G F (.cmp op a b) δ = some (.ok (.bl t) .strong) := by
 show Re.thn (evE G F a δ) (λ x _ => Re.thn (evE G F b δ) λ y _ => (cmpD op x y).map λ k => .ok (.bl k) .strong) = _
 rw [ha, q0J, hb, q0J, h]; rfl
theorem q0l {d : DV} (ha : evE G F a δ = some (.ok x cx)) (hb : evE G F b δ = some (.ok y cy)) (h : ixD x y = some d) : evE G F (.ix a b) δ = some (.ok d cx.item) := by
 show Re.thn (evE G F a δ) (λ x cx => Re.thn (evE G F b δ) λ y _ => (ixD x y).map λ d => .ok d cx.item) = _
 rw [ha, q0J, hb, q0J, h]; rfl
theorem z0S {t : Bool} (ha : evE G F a δ = some (.ok (.bl false) cx)) : evE G F (.and [a, b]) δ = some (.ok (.bl false) cx) := by
 show Re.thn (evE G F a δ) (λ x c => andD x c (evE G F b δ)) = _
 rw [ha]; rfl
theorem q5z {o : Option Re} (ha : evE G F a δ = some (.ok (.bl true) cx)) (hb : evE G F b δ = o) : evE G F (.and [a, b]) δ = o := by
 show Re.thn (evE G F a δ) (λ x c => andD x c (evE G F b δ)) = _
 rw [ha]; exact hb
theorem q3p {o : Option Re} (ha : evE G F a δ = some (.ok (.bl false) cx)) (hb : evE G F b δ = o) : evE G F (.or [a, b]) δ = o := by
 show Re.thn (evE G F a δ) (λ x c => orD x c (evE G F b δ)) = _
 rw [ha]; exact hb
theorem q9d (ha : evE G F a δ = some (.ok (.bl true) cx)) : evE G F (.or [a, b]) δ = some (.ok (.bl true) cx) := by
 show Re.thn (evE G F a δ) (λ x c => orD x c (evE G F b δ)) = _
 rw [ha]; rfl
theorem q0e : evEs G F [] δ = some (.ok []) := rfl
theorem q0a {es : List ME} {l : List (DV × Cl)} (ha : evE G F a δ = some (.ok x cx)) (h : evEs G F es δ = some (.ok l)) : evEs G F (a :: es) δ = some (.ok ((x, cx) :: l)) := by
 unfold evEs
 rw [ha, h]
end
end L2
namespace L2
open PySem
section
variable {G : Gs} {F : Nat -> List DV -> Option Ou} {fu : Nat} {δ δ' : List Sv} {a b c e : ME} {x y d : DV} {cx cy cl : Cl} {i : Nat} {ds : List DV}
theorem q7k {t : Bool} (h : tstD (evE G F c δ) = some (.ok t)) : evE G F (.ite c a b) δ = if t then evE G F a δ else evE G F b δ := by
 show Rt.thn (tstD (evE G F c δ)) (λ k => if k then evE G F a δ else evE G F b δ) = _
 rw [h]; rfl
theorem z1W (h0 : δ[i]? = some (.own (.lst ds))) (h : evE G F e δ = some (.ok d cl)) (hs : stro d cl = true) (hl : ds.length < mostLen) : evS G F fu (.app i e) δ = some (.nx (δ.set i (.own (.lst (ds ++ [d]))))) := by
 unfold evS
 rw [h0]
 show Re.thnS δ (evE G F e δ) (λ d c => if stro d c /\ ds.length < mostLen then some (.nx (δ.set i (.own (.lst (ds ++ [d]))))) else none) = _
 rw [h]
 exact if_pos ⟨hs, hl⟩
theorem z2p {k : ME} {n : Int} {j : Nat} (h0 : δ[i]? = some (.own (.lst ds))) (h : evE G F e δ = some (.ok d cl)) (hk : evE G F k δ = some (.ok (.int n) cx)) (hs : stro d cl = true) (hj : q1g ds.length n = some j) : evS G F fu (.seti i k e) δ = some (.nx (δ.set i (.own (.lst (ds.set j d))))) := by
 unfold evS
 rw [h0]
 show Re.thnS δ (evE G F e δ) (λ d c => Re.thnS δ (evE G F k δ) λ k _ => (match k with | .int k => (match q1g ds.length k with | some j => if stro d c then some (.nx (δ.set i (.own (.lst (ds.set j d))))) else none | none => none) | _ => none)) = _
 rw [h, q9Y, hk, q9Y]
 show (match q1g ds.length n with | some j => if stro d cl then some (Out.nx (δ.set i (.own (.lst (ds.set j d))))) else none | none => none) = _
 rw [hj]
 exact if_pos hs
theorem q9q {test : List Sv -> Option Rt} {body : List Sv -> Option Out} {n : Nat} (h : test δ = some (.ok false)) : q1l test body (n + 1) δ = some (.nx δ) := by
 unfold q1l
 rw [h]
theorem q5a {test : List Sv -> Option Rt} {body : List Sv -> Option Out} {n : Nat} {o : Option Out} (h : test δ = some (.ok true)) (hb : body δ = some (.nx δ')) (hr : q1l test body n δ' = o) : q1l test body (n + 1) δ = o := by
 unfold q1l
 rw [h, hb]
 exact hr
theorem z5G {body r : List MS} {o : Option Out} (h : q1l (λ δ' => tstD (evE G F c δ')) (λ δ' => evSs G F fu body δ') fu δ = some (.nx δ')) (h2 : evSs G F fu r δ' = o) : evSs G F fu (.wh c body :: r) δ = o := q0F h h2
end
end L2
namespace L2
open PySem
section
variable {G : Gs} {F : Nat -> List DV -> Option Ou} {fu : Nat} {δ δ' : List Sv} {a b c e : ME} {x y d : DV} {cx cy cl : Cl} {i : Nat} {ds : List DV}
theorem q4a {I : Nat -> List Sv -> Prop} {body : List Sv -> Option Out} : ∀ (n : Nat) (lo : Int) {δ : List Sv}, (∀ j < n, ∀ δ, I j δ -> ∃ δ2, body (δ.set i (.val (.int (lo + j)))) = some (.nx δ2) /\ I (j + 1) δ2) -> I 0 δ -> ∃ δ', q1q (.one i) body (upTo lo n) δ = some (.nx δ') /\ I n δ'
 | 0, _, δ, _, i0 => ⟨δ, rfl, i0⟩
 | n + 1, lo, δ, h, i0 => by
  have e : upTo lo (n + 1) = .int lo :: upTo (lo + 1) n := by
   unfold upTo
   rw [List.range_succ_eq_map, List.map_cons, List.map_map]
   congr 1
   ·congr 1; omega
   ·apply List.map_congr_left
    intro a _
    show DV.int _ = DV.int _
    congr 1
    push_cast
    omega
  obtain ⟨δ2, h0, i1⟩ := h 0 (by omega) δ i0
  rw [show lo + ((0 : Nat) : Int) = lo by omega] at h0
  obtain ⟨δ', h1, i2⟩ := q4a (I := λ j => I (j + 1)) n (lo + 1) (δ := δ2) (λ j hj δ q => by
   obtain ⟨δ3, q1, q2⟩ := h (j + 1) (by omega) δ q
   refine ⟨δ3, ?_, q2⟩
   rw [show lo + 1 + ((j : Nat) : Int) = lo + ((j + 1 : Nat) : Int) by push_cast; omega]
   exact q1) i1
  refine ⟨δ', ?_, i2⟩
  rw [e]
  show (match body (δ.set i (.val (.int lo))) with | some (.nx δ2) => q1q (.one i) body (upTo (lo + 1) n) δ2 | o => o) = _
  rw [h0]
  exact h1
theorem z1h {elt it cd : ME} {tg : Tg} {fr : List (Option Nat)} {p : DV -> Bool} (hw : q1b (evE G F it δ) = some (.ok ds cl)) (hc : cl ≠ .weak) (hl : ds.length <= mostLen)
  (h : ∀ d ∈ ds, ∃ δ', tg.bind d (q0R fr δ) = some δ' /\ tstD (evE G F cd δ') = some (.ok (p d)) /\ evE G F elt δ' = some (.ok d .strong)) : evE G F (.compi elt tg it cd fr) δ = some (.ok (.lst (ds.filter p)) .fresh) := by
 show Ri.thn (q1b (evE G F it δ)) (λ ds c => if c = .weak \/ mostLen < ds.length then none else q1z (q0X (λ d => (tg.bind d (q0R fr δ)).bind λ δ' => Rc.test (tstD (evE G F cd δ')) (Rc.of (evE G F elt δ'))) ds)) = _
 rw [hw, q5q, if_neg (by rintro (z | z); exact hc z; omega), q3j (p := p) (λ d hd => ?_)]
 ·rfl
 ·obtain ⟨δ', e1, e2, e3⟩ := h d hd
  rw [e1, Option.bind_some, e2, e3]
  cases p d <;> rfl
theorem q5l {elt it : ME} {tg : Tg} {fr : List (Option Nat)} {f : DV -> DV} (hw : q1b (evE G F it δ) = some (.ok ds cl)) (hc : cl ≠ .weak) (hl : ds.length <= mostLen)
  (h : ∀ d ∈ ds, ∃ δ', tg.bind d (q0R fr δ) = some δ' /\ evE G F elt δ' = some (.ok (f d) .strong)) : evE G F (.comp elt tg it fr) δ = some (.ok (.lst (ds.map f)) .fresh) := by
 show Ri.thn (q1b (evE G F it δ)) (λ ds c => if c = .weak \/ mostLen < ds.length then none else q1z (q0X (λ d => (tg.bind d (q0R fr δ)).bind λ δ' => Rc.of (evE G F elt δ')) ds)) = _
 rw [hw, q5q, if_neg (by rintro (z | z); exact hc z; omega), q3s (f := f) (λ d hd => ?_)]
 ·rfl
 ·obtain ⟨δ', e1, e2⟩ := h d hd
  rw [e1, Option.bind_some, e2]
  rfl
theorem z5t {l : List Int} {j : Nat} (h : j < l.length) : ixD (.lst (l.map DV.int)) (.int j) = some (.int l[j]) := by
 have hh : (j : Int) < ((l.map DV.int).length : Int) := by rw [List.length_map]; exact_mod_cast h
 simp only [ixD, atD, q1g, if_pos (Int.natCast_nonneg j), if_pos hh, Option.bind_some, Int.toNat_natCast, List.getElem?_map, List.getElem?_eq_getElem h, Option.map_some]
theorem q2Z {l : List Int} {i : Int} (h0 : 0 <= i) (h : i < l.length) : ∃ v, ixD (.lst (l.map DV.int)) (.int i) = some (.int v) := by
 obtain ⟨j, rfl⟩ := Int.eq_ofNat_of_zero_le h0
 exact ⟨_, z5t (by omega)⟩
end
end L2
namespace L2
open PySem
section
variable {G : Gs} {F : Nat -> List DV -> Option Ou} {fu : Nat} {δ δ' : List Sv} {r body : List MS} {it : ME} {cl : Cl} {ds : List DV} {tg : Tg} {o : Option Out}
end
end L2
namespace L2
open PySem
section
variable {G : Gs} {F : Nat -> List DV -> Option Ou} {fu : Nat} {δ δ' : List Sv} {a b : ME} {i j : Int} {cx cy : Cl}
theorem q0c : evE G F (.int i) δ = some (.ok (.int i) .strong) := rfl
theorem q0b {n : Nat} {d : DV} (h : δ[n]? = some (.val d)) : evE G F (.var n) δ = some (.ok d .strong) := by unfold evE; rw [h]
theorem q9Z {n : Nat} {d : DV} (h : δ[n]? = some (.own d)) : evE G F (.var n) δ = some (.ok d .top) := by unfold evE; rw [h]
theorem q2g (ha : evE G F a δ = some (.ok (.int i) cx)) (hb : evE G F b δ = some (.ok (.int j) cy)) : evE G F (.bin .Add a b) δ = some (.ok (.int (i + j)) .strong) := q4g ha hb rfl
theorem q9x (ha : evE G F a δ = some (.ok (.int i) cx)) (hb : evE G F b δ = some (.ok (.int j) cy)) : evE G F (.bin .Sub a b) δ = some (.ok (.int (i - j)) .strong) := q4g ha hb rfl
theorem q5E (ha : evE G F a δ = some (.ok (.int i) cx)) (hb : evE G F b δ = some (.ok (.int j) cy)) (h : q3o i j = true) : evE G F (.bin .Mult a b) δ = some (.ok (.int (i * j)) .strong) := q4g ha hb (if_pos h)
theorem q1w (ha : evE G F a δ = some (.ok (.int i) cx)) (hb : evE G F b δ = some (.ok (.int j) cy)) (h : 0 < j) : evE G F (.bin .Mod a b) δ = some (.ok (.int (i % j)) .strong) := q4g ha hb (if_pos h)
theorem q6r (ha : evE G F a δ = some (.ok (.int i) cx)) (hb : evE G F b δ = some (.ok (.int j) cy)) (h : 0 < j /\ j < 1073741824) : evE G F (.bin .FloorDiv a b) δ = some (.ok (.int (i / j)) .strong) := q4g ha hb (if_pos h)
theorem b_eq (ha : evE G F a δ = some (.ok (.int i) cx)) (hb : evE G F b δ = some (.ok (.int j) cy)) : evE G F (.cmp .Eq a b) δ = some (.ok (.bl (i == j)) .strong) := q1B ha hb rfl
theorem b_lt (ha : evE G F a δ = some (.ok (.int i) cx)) (hb : evE G F b δ = some (.ok (.int j) cy)) : evE G F (.cmp .Lt a b) δ = some (.ok (.bl (decide (i < j))) .strong) := q1B ha hb rfl
theorem b_gt (ha : evE G F a δ = some (.ok (.int i) cx)) (hb : evE G F b δ = some (.ok (.int j) cy)) : evE G F (.cmp .Gt a b) δ = some (.ok (.bl (decide (j < i))) .strong) := q1B ha hb rfl
end
end L2
namespace L2
open PySem
section
variable {G : Gs} {F : Nat -> List DV -> Option Ou} {fu : Nat} {δ δ' : List Sv} {es : List ME} {l : List (DV × Cl)}
theorem q0I {x : Str} : evE G F (.str x) δ = some (.ok (.str x) .strong) := rfl
theorem q1S (h : evEs G F es δ = some (.ok l)) (hl : l.length <= mostLen) (hs : stros l = true) : evE G F (.tup es) δ = some (.ok (.tup (l.map (·.1))) .strong) := by
 show Rs.thn (evEs G F es δ) (λ l => if l.length <= mostLen then some (.ok (.tup (l.map (·.1))) (if stros l then .strong else .weak)) else none) = _
 rw [h, q2j, if_pos hl, hs]
 rfl
end
end L2
namespace L2
open PySem
end L2
namespace L2
open PySem
end L2
end
section
namespace k14
open PySem L2
noncomputable def q3h : FD := { n := 3, np := 3, dfl := [], body := [.ret (.and [.isi (.var 0) ["int"], .not (.isi (.var 0) ["bool"]), .chain .LtE .LtE (.var 1) (.var 0) (.var 2)])] }
noncomputable def q3a : FD := { n := 1, np := 1, dfl := [], body := [.ret (.bi .tuple [.comp (.bi .tuple [.comp (.ix (.var 0) (.var 1)) (.one 0) (.var 1) [none, some 0]]) (.one 0) (.rng [.bi .len [.ix (.var 0) (.int 0)]]) [none, some 0]])] }
noncomputable def z0M : FD := { n := 7, np := 3, dfl := [], body := [.set 3 true (.lst []), .set 4 false (.var 0), .wh (.cmp .Eq (.ix (.var 4) (.int 0)) (.str "ask")) [.set 5 false (.ite (.cmp .Eq (.ix (.var 4) (.int 1)) (.str "row")) (.var 1) (.var 2)), .set 6 false (.bin .BitAnd (.bin .RShift (.ix (.var 4) (.int 2)) (.var 5)) (.int 1)), .app 3 (.var 6), .set 4 false (.ite (.cmp .Eq (.var 6) (.int 1)) (.ix (.var 4) (.int 4)) (.ix (.var 4) (.int 3)))], .ret0 [.var 3, .ix (.var 4) (.int 1)]] }
noncomputable def q3i : FD := { n := 3, np := 3, dfl := [], body := [.ret (.ix (.call 2 [.var 0, .var 1, .var 2]) (.int 1))] }
noncomputable def q2Y : FD := { n := 6, np := 2, dfl := [], body := [.fo (.many [2, 3]) (.enu (.var 1)) [.fo (.many [4, 5]) (.enu (.var 3)) [.iff (.cmp .NotEq (.call 3 [.var 0, .var 2, .var 4]) (.var 5)) [.ret (.bl false)] []]], .ret (.bl true)] }
noncomputable def q2m : FD := { n := 1, np := 1, dfl := [], body := [.iff (.not (.call 6 [.var 0, .glb "MOST_ASKS_DEEP"])) [.rse "NoPlan" (.str "a plan is an end or an ask, with at most 12 asks one within another")] [], .iff (.cmp .Gt (.call 11 [.var 0]) (.bin .Add (.glb "MOST_ASKS") (.int 1))) [.rse "NoPlan" (.str "a plan has at most 300 asks")] [], .ret (.var 0)] }
noncomputable def q1P : FD := { n := 2, np := 2, dfl := [], body := [.iff (.call 7 [.var 0]) [.ret (.bl true)] [], .ret (.and [.cmp .Gt (.var 1) (.int 0), .call 8 [.var 0], .call 6 [.ix (.var 0) (.int 3), .bin .Sub (.var 1) (.int 1)], .call 6 [.ix (.var 0) (.int 4), .bin .Sub (.var 1) (.int 1)]])] }
noncomputable def q2C : FD := { n := 1, np := 1, dfl := [], body := [.ret (.and [.call 9 [.var 0, .int 2], .call 10 [.ix (.var 0) (.int 0), .str "end"], .call 0 [.ix (.var 0) (.int 1), .int 0, .glb "GREATEST_WORD"]])] }
noncomputable def q3I : FD := { n := 1, np := 1, dfl := [], body := [.iff (.or [.not (.call 9 [.var 0, .int 5]), .not (.call 10 [.ix (.var 0) (.int 0), .str "ask"])]) [.ret (.bl false)] [], .ret (.and [.or [.call 10 [.ix (.var 0) (.int 1), .str "row"], .call 10 [.ix (.var 0) (.int 1), .str "column"]], .call 0 [.ix (.var 0) (.int 2), .int 1, .glb "ALL_CARDS"]])] }
noncomputable def q2E : FD := { n := 2, np := 2, dfl := [], body := [.ret (.and [.isi (.var 0) ["tuple"], .cmp .Eq (.bi .len [.var 0]) (.var 1)])] }
noncomputable def q3c : FD := { n := 2, np := 2, dfl := [], body := [.ret (.and [.isi (.var 0) ["str"], .cmp .Eq (.var 0) (.var 1)])] }
noncomputable def q1a : FD := { n := 1, np := 1, dfl := [], body := [.iff (.cmp .Eq (.ix (.var 0) (.int 0)) (.str "end")) [.ret (.int 1)] [], .ret (.bin .Add (.call 11 [.ix (.var 0) (.int 3)]) (.call 11 [.ix (.var 0) (.int 4)]))] }
noncomputable def q0V : FD := { n := 1, np := 1, dfl := [], body := [.iff (.cmp .Eq (.ix (.var 0) (.int 0)) (.str "end")) [.ret (.var 0)] [], .ret (.tup [.str "ask", .gdx "OTHER_SIDE" (.ix (.var 0) (.int 1)), .ix (.var 0) (.int 2), .call 12 [.ix (.var 0) (.int 3)], .call 12 [.ix (.var 0) (.int 4)]])] }
noncomputable def q1t : FD := { n := 2, np := 2, dfl := [], body := [.iff (.cmp .Lt (.var 1) (.bi .len [.var 0])) [.ret (.ix (.var 0) (.var 1))] [], .ret (.int 0)] }
noncomputable def q1C : FD := { n := 5, np := 2, dfl := [], body := [.set 2 true (.lst []), .set 3 false (.bin .Add (.bin .Mod (.var 0) (.int 2147483647)) (.int 48271)), .fo (.one 4) (.rng [.var 1]) [.set 3 false (.bin .Mod (.bin .Add (.bin .Add (.bin .Mult (.var 3) (.int 48271)) (.bin .Mult (.var 4) (.var 4))) (.int 11)) (.int 2147483647)), .app 2 (.bin .FloorDiv (.var 3) (.int 7))], .ret (.var 2)] }
noncomputable def q1L : FD := { n := 8, np := 3, dfl := [], body := [.set 3 false (.call 14 [.call 13 [.var 0, .int 0], .int 3]), .set 4 false (.bin .Add (.int 1) (.bin .Mod (.ix (.var 3) (.int 0)) (.int 8))), .set 5 false (.bin .Add (.int 1) (.bin .Mod (.ix (.var 3) (.int 1)) (.int 8))), .set 6 true (.comp (.bin .Mod (.var 0) (.var 1)) (.one 0) (.call 14 [.call 13 [.var 0, .int 1], .bin .Mult (.var 4) (.var 5)]) [none, some 2]), .fo (.one 7) (.rng [.bi .min [.bin .Mult (.var 4) (.var 5), .bin .Sub (.bi .len [.var 0]) (.var 1)]]) [.seti 6 (.var 7) (.bin .Mod (.ix (.var 0) (.bin .Add (.var 1) (.var 7))) (.var 2))], .ret (.comp (.sl (.var 1) (.bin .Mult (.var 0) (.var 2)) (.bin .Add (.bin .Mult (.var 0) (.var 2)) (.var 2))) (.one 0) (.rng [.var 4]) [none, some 6, some 5])] }
noncomputable def q1n : FD := { n := 1, np := 1, dfl := [], body := [.ret (.bi .tuple [.comp (.bi .tuple [.var 0]) (.one 0) (.var 0) [none]])] }
noncomputable def q0Z : FD := { n := 8, np := 4, dfl := [], body := [.set 4 false (.ix (.var 0) (.bin .Mod (.var 1) (.bi .len [.var 0]))), .iff (.or [.cmp .Eq (.var 2) (.int 0), .and [.cmp .Eq (.bin .Mod (.var 4) (.int 7)) (.int 0), .cmp .Lt (.var 2) (.var 3)]]) [.ret (.tup [.str "end", .bin .Mod (.bin .FloorDiv (.var 4) (.int 7)) (.int 10)])] [], .set 5 false (.ix (.lst [.str "row", .str "column"]) (.bin .Mod (.bin .FloorDiv (.var 4) (.int 7)) (.int 2))), .set 6 false (.bin .Add (.int 1) (.bin .Mod (.bin .FloorDiv (.var 4) (.int 14)) (.int 255))), .set 7 false (.call 17 [.var 0, .bin .Add (.bin .Mult (.int 2) (.var 1)) (.int 1), .bin .Sub (.var 2) (.int 1), .var 3]), .ret (.tup [.str "ask", .var 5, .var 6, .var 7, .call 17 [.var 0, .bin .Add (.bin .Mult (.int 2) (.var 1)) (.int 2), .bin .Sub (.var 2) (.int 1), .var 3]])] }
noncomputable def q2G : FD := { n := 3, np := 1, dfl := [], body := [.set 1 false (.int 0), .fo (.one 2) (.var 0) [.set 1 false (.bin .Add (.var 1) (.ix (.lst [.int 1, .int 2, .int 4, .int 8, .int 16, .int 32, .int 64, .int 128]) (.var 2)))], .ret (.var 1)] }
noncomputable def q1K : FD := { n := 5, np := 1, dfl := [], body := [.set 1 false (.bi .sset [.var 0]), .set 2 false (.tup [.str "end", .ix (.var 1) (.int 0)]), .fo (.one 3) (.slf (.var 1) (.int 1)) [.set 4 false (.compi (.var 0) (.one 0) (.rng [.bi .len [.var 0]]) (.cmp .Eq (.ix (.var 1) (.var 0)) (.var 2)) [none, some 0, some 3]), .set 2 false (.tup [.str "ask", .str "column", .call 18 [.var 4], .var 2, .tup [.str "end", .var 3]])], .ret (.var 2)] }
noncomputable def q0K : FD := { n := 4, np := 2, dfl := [], body := [.iff (.cmp .Eq (.bi .len [.var 1]) (.int 1)) [.ret (.call 19 [.ix (.var 0) (.ix (.var 1) (.int 0))])] [], .set 2 false (.bin .FloorDiv (.bi .len [.var 1]) (.int 2)), .set 3 false (.call 20 [.var 0, .slf (.var 1) (.var 2)]), .ret (.tup [.str "ask", .str "row", .call 18 [.slf (.var 1) (.var 2)], .call 20 [.var 0, .slt (.var 1) (.var 2)], .var 3])] }
noncomputable def q0q : FD := { n := 3, np := 3, dfl := [], body := [.iff (.cmp .Eq (.ix (.var 0) (.int 0)) (.str "end")) [.ret (.tup [.str "end", .bin .Mod (.bin .Add (.bin .Add (.ix (.var 0) (.int 1)) (.int 1)) (.bin .Mod (.ix (.var 1) (.bin .Mod (.var 2) (.bi .len [.var 1]))) (.int 9))) (.int 10)])] [], .iff (.cmp .Eq (.bin .Mod (.ix (.var 1) (.bin .Mod (.var 2) (.bi .len [.var 1]))) (.int 5)) (.int 0)) [.ret (.tup [.str "ask", .ix (.var 0) (.int 1), .bin .Add (.int 1) (.bin .Mod (.ix (.var 1) (.bin .Mod (.bin .Add (.var 2) (.int 1)) (.bi .len [.var 1]))) (.int 255)), .ix (.var 0) (.int 3), .ix (.var 0) (.int 4)])] [], .iff (.cmp .Eq (.bin .Mod (.ix (.var 1) (.bin .Mod (.var 2) (.bi .len [.var 1]))) (.int 2)) (.int 0)) [.ret (.tup [.str "ask", .ix (.var 0) (.int 1), .ix (.var 0) (.int 2), .call 21 [.ix (.var 0) (.int 3), .var 1, .bin .Add (.var 2) (.int 2)], .ix (.var 0) (.int 4)])] [], .ret (.tup [.str "ask", .ix (.var 0) (.int 1), .ix (.var 0) (.int 2), .ix (.var 0) (.int 3), .call 21 [.ix (.var 0) (.int 4), .var 1, .bin .Add (.var 2) (.int 2)]])] }
noncomputable def q1v : FD := { n := 4, np := 3, dfl := [], body := [.wh (.cmp .Eq (.ix (.var 0) (.int 0)) (.str "ask")) [.set 3 false (.ix (.lst [.var 1, .var 2]) (.bi .int [.cmp .Eq (.ix (.var 0) (.int 1)) (.str "column")])), .set 0 false (.ix (.var 0) (.bin .Add (.int 3) (.bin .Mod (.bin .FloorDiv (.ix (.var 0) (.int 2)) (.ix (.lst [.int 1, .int 2, .int 4, .int 8, .int 16, .int 32, .int 64, .int 128]) (.var 3))) (.int 2))))], .ret (.ix (.var 0) (.int 1))] }
noncomputable def q2D : FD := { n := 4, np := 2, dfl := [], body := [.fo (.one 2) (.rng [.bi .len [.var 1]]) [.fo (.one 3) (.rng [.bi .len [.ix (.var 1) (.int 0)]]) [.iff (.cmp .NotEq (.call 22 [.var 0, .var 2, .var 3]) (.ix (.ix (.var 1) (.var 2)) (.var 3))) [.ret (.bl false)] []]], .ret (.bl true)] }
noncomputable def q1Y : FD := { n := 6, np := 3, dfl := [], body := [.set 3 false (.call 23 [.var 0, .var 1]), .set 4 false (.call 4 [.call 5 [.var 0], .var 2]), .set 5 false (.call 4 [.call 12 [.var 0], .call 1 [.var 2]]), .ret (.and [.isi (.var 4) ["bool"], .cmp .Eq (.var 4) (.var 3), .cmp .Eq (.var 5) (.var 3)])] }
noncomputable def z0s : FD := { n := 8, np := 1, dfl := [], body := [.set 1 false (.call 14 [.call 13 [.var 0, .int 2], .int 60]), .set 2 false (.call 15 [.var 0, .int 4, .ix (.lst [.int 2, .int 3, .int 10]) (.bin .Mod (.ix (.var 1) (.int 0)) (.int 3))]), .set 3 false (.call 16 [.var 2]), .set 4 false (.call 20 [.var 2, .bi .lrng [.bi .len [.var 2]]]), .iff (.or [.not (.call 23 [.var 4, .var 2]), .not (.call 24 [.var 4, .var 2, .var 3])]) [.ret (.bl false)] [], .set 5 false (.call 21 [.var 4, .slf (.var 1) (.int 1), .int 0]), .set 6 false (.call 17 [.call 14 [.call 13 [.var 0, .int 3], .int 50], .int 0, .bin .Mod (.ix (.var 1) (.int 1)) (.int 5), .int 3]), .iff (.or [.not (.call 24 [.var 5, .var 2, .var 3]), .not (.call 24 [.var 6, .var 2, .var 3])]) [.ret (.bl false)] [], .set 7 false (.bi .tuple [.comp (.bi .tuple [.bin .Mult (.lst [.ix (.ix (.var 1) (.int 0)) (.int 0)]) (.bi .len [.var 0])]) (.one 0) (.var 3) [none, some 3]]), .ret (.call 24 [.tup [.str "end", .ix (.ix (.var 3) (.int 0)) (.int 0)], .comp (.bi .list [.var 0]) (.one 0) (.var 7) [none], .var 7])] }
noncomputable def T : List FD := [q3h, q3a, z0M, q3i, q2Y, q2m, q1P, q2C, q3I, q2E, q3c, q1a, q0V, q1t, q1C, q1L, q1n, q0Z, q2G, q1K, q0K, q0q, q1v, q2D, q1Y, z0s]
noncomputable def G : Gs := { dcs := [("OTHER_SIDE", [("row", "column"), ("column", "row")])], con := [("GREATEST_WORD", .int 9), ("MOST_ASKS_DEEP", .int 12), ("MOST_ASKS", .int 300), ("ALL_CARDS", .int 255)], cls := [("TalkError", ["ValueError", "Exception", "BaseException", "object"]), ("NoPlan", ["TalkError", "ValueError", "Exception", "BaseException", "object"])] }
end k14
namespace k14
open PySem L2
variable {fu k : Nat} {F : Nat -> List DV -> Option Ou} {δ : List Sv} {ds : List DV} {cl : Cl}
theorem q3U {x : Int} : isiD G (.int x) ["int"] = some true := rfl
theorem q3D {x : Int} : isiD G (.int x) ["bool"] = some false := rfl
theorem q7A : cmpD .Eq (.str "end") (.str "end") = some true := by decide +kernel
theorem q9J : cmpD .Eq (.str "ask") (.str "end") = some false := by decide +kernel
theorem q7m : cmpD .Eq (.str "ask") (.str "ask") = some true := by decide +kernel
theorem z1G : cmpD .Eq (.str "end") (.str "ask") = some false := by decide +kernel
theorem z1H : cmpD .Eq (.str "row") (.str "row") = some true := by decide +kernel
theorem z1S : cmpD .Eq (.str "column") (.str "row") = some false := by decide +kernel
theorem q7y {x a b : Int} : run G T fu (k + 1) 0 [.int x, .int a, .int b] = some (.v (.bl (decide (a <= x) && decide (x <= b))) false) := by
 rw [q0u (fd := q3h) rfl rfl]
 by_cases h1 : a <= x
 ·simp [q3h, q0i, evSs, evS, evE, q2p, Re.thnS, q0J, q3U, q3D, andD, q2n, cmpD, h1, Ou.of, frD, retD, Cl.item]
 ·simp [q3h, q0i, evSs, evS, evE, q2p, Re.thnS, q0J, q3U, q3D, andD, q2n, cmpD, h1, Ou.of, frD, retD, Cl.item]
theorem q7c (ns : List Int) (j : Nat) : ∃ v : Int, run G T fu (k + 1) 13 [.scr ns, .int j] = some (.v (.int v) false) := by
 rw [q0u (fd := q1t) rfl rfl]
 unfold q1t
 by_cases h : j < ns.length
 ·refine ⟨ns[j], q0W (q2o (q0r (cl := .strong) ?_) (q0T ?_))⟩
  ·simp [evE, evEs, q0J, q2j, q0i, biOk, biD, lenD, cmpD, h]
  ·simp [evS, evE, q0J, q0i, ixD, q1g, h, Re.thnS, frD, retD, Cl.item]
 ·refine ⟨0, q0W (q1m (q0r (cl := .strong) ?_) (q0T rfl))⟩
  simp [evE, evEs, q0J, q2j, q0i, biOk, biD, lenD, cmpD]
  omega
theorem q4Y (xs : List Int) (v : Int) : xs.map DV.int ++ [.int v] = (xs ++ [v]).map DV.int := by rw [List.map_append]; rfl
theorem q8d {F : Nat -> List DV -> Option Ou} {δ : List Sv} {e : ME} {n : Nat} {cl : Cl} (h : evE G F e δ = some (.ok (.int n) cl)) (hn : n <= 1000) : q1b (evE G F (.rng [e]) δ) = some (.ok (upTo 0 n) .fresh) := by
 show q1b (Rs.thn (evEs G F [e] δ) (λ l => (rngD l).map λ ds => .ok (.lst ds) .fresh)) = _
 rw [q0a h q0e, q2j]
 have hs : (q1s (n : Int) && decide ((n : Int) <= (mostLen : Int))) = true := by
  rw [Bool.and_eq_true, decide_eq_true_iff]
  refine ⟨?_, Int.le_trans (show (n : Int) <= 1000 by omega) (by decide)⟩
  unfold q1s
  rw [Bool.and_eq_true, decide_eq_true_iff, decide_eq_true_iff]
  exact ⟨Int.le_trans (by decide) (Int.natCast_nonneg n), Int.lt_of_le_of_lt (show (n : Int) <= 1000 by omega) (by decide)⟩
 show q1b ((if q1s (n : Int) && decide ((n : Int) <= (mostLen : Int)) then some (upTo 0 (n : Int).toNat) else none).map λ ds => .ok (.lst ds) .fresh) = _
 rw [if_pos hs, Int.toNat_natCast]
 rfl
theorem z6N {j : Nat} (hj : j < 1000) : q3o (j : Int) (j : Int) = true := by unfold q3o; simp; omega
theorem m48 (x : Int) : q3o x 48271 = true := by unfold q3o; simp
theorem q3N (c : Int) (n : Nat) (hn : n <= 1000) : ∃ xs : List Int, xs.length = n /\ run G T fu (k + 1) 14 [.int c, .int n] = some (.v (.lst (xs.map DV.int)) true) := by
 rw [q0u (fd := q1C) rfl rfl]
 obtain ⟨δ1, h1, xs, num, z, hl, rfl⟩ := q4a (i := 4) (I := λ j δ => ∃ (xs : List Int) (num : Int) (z : Sv), xs.length = j /\ δ = [.val (.int c), .val (.int n), .own (.lst (xs.map DV.int)), .val (.int num), z])
  (body := λ δ' => evSs G (run G T fu k) fu [.set 3 false (.bin .Mod (.bin .Add (.bin .Add (.bin .Mult (.var 3) (.int 48271)) (.bin .Mult (.var 4) (.var 4))) (.int 11)) (.int 2147483647)), .app 2 (.bin .FloorDiv (.var 3) (.int 7))] δ') n 0 (δ := [.val (.int c), .val (.int n), .own (.lst []), .val (.int (c % 2147483647 + 48271)), .no])
  (λ j hj δ I => by
   obtain ⟨xs, num, z, hl, rfl⟩ := I
   rw [show (0 : Int) + (j : Int) = j by omega]
   obtain ⟨N, hN⟩ : ∃ N : Int, (num * 48271 + (j : Int) * j + 11) % 2147483647 = N := ⟨_, rfl⟩
   obtain ⟨D, hD⟩ : ∃ D : Int, N / 7 = D := ⟨_, rfl⟩
   refine ⟨_, q0F (q0y (d := .int N) (cl := .strong) ?_ rfl) (q0F (z1W (d := .int D) (cl := .strong) rfl ?_ rfl (by rw [List.length_map, hl]; exact Nat.lt_of_lt_of_le (Nat.lt_of_lt_of_le hj hn) (by decide))) rfl), xs ++ [D], N, .val (.int j), by rw [List.length_append, hl]; rfl, ?_⟩
   ·rw [← hN]; exact q1w (q2g (q2g (q5E (q0b rfl) q0c (m48 _)) (q5E (q0b rfl) (q0b rfl) (z6N (by omega)))) q0c) q0c (by decide)
   ·rw [← hD]; exact q6r (q0b rfl) q0c (by decide)
   ·rw [← q4Y]; rfl) ⟨[], _, .no, rfl, rfl⟩
 refine ⟨xs, hl, ?_⟩
 unfold q1C
 exact q0W (q0F (q9C rfl) (q0F (q0y (d := .int (c % 2147483647 + 48271)) (cl := .strong) (q2g (q1w (q0b rfl) q0c (by decide)) q0c) rfl) (q6k (q8d (n := n) (q0b rfl) hn) (.inr rfl) h1 (q0T rfl))))
theorem z1m (r o : Nat) : Builtin.bitAnd r o = ((r &&& o : Nat) : Int) := by
 unfold Builtin.bitAnd
 rw [decide_eq_true (Int.natCast_nonneg r), decide_eq_true (Int.natCast_nonneg o)]
 rfl
theorem pow8 {j : Nat} (hj : j < 8) : ixD (.lst [.int 1, .int 2, .int 4, .int 8, .int 16, .int 32, .int 64, .int 128]) (.int j) = some (.int ((2 ^ j : Nat) : Int)) := by
 have : j = 0 \/ j = 1 \/ j = 2 \/ j = 3 \/ j = 4 \/ j = 5 \/ j = 6 \/ j = 7 := by omega
 rcases this with rfl | rfl | rfl | rfl | rfl | rfl | rfl | rfl <;> rfl
inductive Pl where
 | fin (v : Int) | ask (row : Bool) (c : Nat) (a b : Pl)
noncomputable def side (r : Bool) : DV := if r then .str "row" else .str "column"
noncomputable def dv : Pl -> DV
 | .fin v => .tup [.str "end", .int v]
 | .ask r c a b => .tup [.str "ask", side r, .int c, dv a, dv b]
noncomputable def ht : Pl -> Nat
 | .fin _ => 0
 | .ask _ _ a b => max (ht a) (ht b) + 1
noncomputable def lv : Pl -> Nat
 | .fin _ => 1
 | .ask _ _ a b => lv a + lv b
noncomputable def vl : Pl -> Nat -> Nat -> Int
 | .fin v, _, _ => v
 | .ask s o a b, i, j => if o.testBit (if s then i else j) then vl b i j else vl a i j
theorem z5e (o i : Nat) : binD .BitAnd (.int ((o : Int) / 2 ^ ((i : Int).toNat))) (.int 1) .strong .strong = some (.ok (.int (if o.testBit i then 1 else 0)) .strong) := by
 show some (Re.ok (DV.int (Builtin.bitAnd _ 1)) Cl.strong) = _
 have e : (o : Int) / 2 ^ ((i : Int).toNat) = ((o / 2 ^ i : Nat) : Int) := by
  rw [Int.toNat_natCast]; push_cast; rfl
 rw [e, show (1 : Int) = ((1 : Nat) : Int) from rfl, z1m, Nat.and_one_is_mod, Nat.testBit_eq_decide_div_mod_eq]
 have : o / 2 ^ i % 2 = 0 \/ o / 2 ^ i % 2 = 1 := by omega
 rcases this with h | h <;> rw [h] <;> rfl
noncomputable def wayC : ME := .cmp .Eq (.ix (.var 4) (.int 0)) (.str "ask")
noncomputable def wayB : List MS := [.set 5 false (.ite (.cmp .Eq (.ix (.var 4) (.int 1)) (.str "row")) (.var 1) (.var 2)), .set 6 false (.bin .BitAnd (.bin .RShift (.ix (.var 4) (.int 2)) (.var 5)) (.int 1)), .app 3 (.var 6), .set 4 false (.ite (.cmp .Eq (.var 6) (.int 1)) (.ix (.var 4) (.int 4)) (.ix (.var 4) (.int 3)))]
theorem z0R (q : DV) (s : Bool) (o : Nat) (a b : Pl) (i j : Nat) (bs : List DV) (c d : Sv) (hl : bs.length <= 10000) (t : Bool) (ht : o.testBit (if s then i else j) = t) :
  evSs G (run G T fu k) fu wayB [.val q, .val (.int i), .val (.int j), .own (.lst bs), .val (dv (.ask s o a b)), c, d] = some (.nx [.val q, .val (.int i), .val (.int j), .own (.lst (bs ++ [.int (if t then 1 else 0)])), .val (dv (if t then b else a)), .val (.int ((if s then i else j : Nat) : Int)), .val (.int (if t then 1 else 0))]) := by
 have hbl : bs.length < mostLen := Nat.lt_of_le_of_lt hl (by decide)
 have hb := z5e o (if s then i else j)
 rw [ht] at hb
 unfold wayB
 refine q0F (q0y (d := .int ((if s then i else j : Nat) : Int)) (cl := .strong) ?_ rfl) (q0F (q0y (d := .int (if t then 1 else 0)) (cl := .strong) (q4g (x := .int ((o : Int) / 2 ^ (((if s then i else j : Nat) : Int).toNat))) (cx := .strong) ?_ rfl hb) rfl) (q0F (z1W (d := .int (if t then 1 else 0)) (cl := .strong) rfl rfl rfl hbl) (q0F (q0y (d := dv (if t then b else a)) (cl := .strong) ?_ rfl) rfl)))
 ·cases s
  ·exact (q7k (t := false) (q0r (cl := .strong) (by simp [evE, dv, q0J, ixD, atD, q1g, side, z1S]))).trans rfl
  ·exact (q7k (t := true) (q0r (cl := .strong) (by simp [evE, dv, q0J, ixD, atD, q1g, side, z1H]))).trans rfl
 ·simp [evE, dv, q0J, ixD, atD, q1g, binD]
 ·cases t
  ·exact (q7k (t := false) (q0r (cl := .strong) rfl)).trans (by simp [evE, dv, q0J, ixD, atD, q1g, Cl.item])
  ·exact (q7k (t := true) (q0r (cl := .strong) rfl)).trans (by simp [evE, dv, q0J, ixD, atD, q1g, Cl.item])
theorem q2F {e : ME} {ds : List DV} {c : Cl} (h : evE G F e δ = some (.ok (.lst ds) c)) : evE G F (.bi .tuple [e]) δ = some (.ok (.tup ds) c.item) := by
 show Rs.thn (evEs G F [e] δ) (λ l => q4P l) = _
 rw [q0a h q0e]
 rfl
theorem q1W {e : ME} {ds : List DV} {c : Cl} (h : evE G F e δ = some (.ok (.lst ds) c)) : evE G F (.bi .len [e]) δ = some (.ok (.int ds.length) .strong) := by
 show Rs.thn (evEs G F [e] δ) (λ l => lenD l) = _
 rw [q0a h q0e]
 rfl
theorem q6A {e : ME} {ds : List DV} {c : Cl} (h : evE G F e δ = some (.ok (.tup ds) c)) : evE G F (.bi .len [e]) δ = some (.ok (.int ds.length) .strong) := by
 show Rs.thn (evEs G F [e] δ) (λ l => lenD l) = _
 rw [q0a h q0e]
 rfl
noncomputable def iD (r : List Int) : List DV := r.map DV.int
noncomputable def rL (rows : List (List Int)) : DV := .lst (rows.map λ r => .lst (iD r))
noncomputable def tT (rows : List (List Int)) : DV := .tup (rows.map λ r => .tup (iD r))
noncomputable def Rect (n m : Nat) (rows : List (List Int)) : Prop := rows.length = n /\ ∀ r ∈ rows, r.length = m
theorem q7B (rows : List (List Int)) (h : rows.length <= 1000) : run G T fu (k + 1) 16 [rL rows] = some (.v (tT rows) false) := by
 rw [q0u (fd := q1n) rfl rfl]
 have cm := q5l (G := G) (F := run G T fu k) (δ := q0i 1 [rL rows]) (elt := .bi .tuple [.var 0]) (tg := .one 0) (it := .var 0) (fr := [none]) (f := λ d => match d with | .lst ds => .tup ds | d => d) (ds := rows.map λ r => .lst (iD r)) (cl := .strong) rfl (by decide)
  (by rw [List.length_map]; exact Nat.le_trans h (by decide)) (λ d hd => by
   obtain ⟨r, hr, rfl⟩ := List.mem_map.mp hd
   exact ⟨[.val (.lst (iD r))], rfl, q2F (q0b rfl)⟩)
 rw [List.map_map] at cm
 unfold q1n
 exact q0W (q0T (q0P (q2F cm)))
noncomputable def col (rows : List (List Int)) (j : Nat) : List Int := rows.map λ r => r.getD j 0
noncomputable def flip (m : Nat) (rows : List (List Int)) : List (List Int) := (List.range m).map (col rows)
theorem q8j {r : List Int} {j : Nat} (h : j < r.length) : ixD (.tup (iD r)) (.int j) = some (.int (r.getD j 0)) := by
 have hh : (j : Int) < ((r.map DV.int).length : Int) := by rw [List.length_map]; exact_mod_cast h
 unfold iD
 simp only [ixD, atD, q1g, if_pos (Int.natCast_nonneg j), if_pos hh, Option.bind_some, Int.toNat_natCast, List.getElem?_map, List.getElem?_eq_getElem h, Option.map_some, List.getD_eq_getElem?_getD, Option.getD_some]
theorem q6s {r : List Int} {j : Nat} (h : j < r.length) : ixD (.lst (iD r)) (.int j) = some (.int (r.getD j 0)) := by
 have hh : (j : Int) < ((r.map DV.int).length : Int) := by rw [List.length_map]; exact_mod_cast h
 unfold iD
 simp only [ixD, atD, q1g, if_pos (Int.natCast_nonneg j), if_pos hh, Option.bind_some, Int.toNat_natCast, List.getElem?_map, List.getElem?_eq_getElem h, Option.map_some, List.getD_eq_getElem?_getD, Option.getD_some]
theorem z7g (rows : List (List Int)) (m j : Nat) (hm : ∀ r ∈ rows, r.length = m) (hj : j < m) (hl : rows.length <= 1000) : evE G F (.comp (.ix (.var 0) (.var 1)) (.one 0) (.var 1) [none, some 0]) [.val (.int j), .val (tT rows)] = some (.ok (.lst (iD (col rows j))) .fresh) := by
 have cm := q5l (G := G) (F := F) (δ := [.val (.int j), .val (tT rows)]) (elt := .ix (.var 0) (.var 1)) (tg := .one 0) (it := .var 1) (fr := [none, some 0]) (f := λ d => match d with | .tup ds => ds.getD j (.int 0) | d => d) (ds := rows.map λ r => .tup (iD r)) (cl := .strong) rfl (by decide)
  (by rw [List.length_map]; exact Nat.le_trans hl (by decide)) (λ d hd => by
   obtain ⟨r, hr, rfl⟩ := List.mem_map.mp hd
   refine ⟨[.val (.tup (iD r)), .val (.int j)], rfl, ?_⟩
   have hjr : j < r.length := by rw [hm r hr]; exact hj
   have e : (iD r).getD j (.int 0) = .int (r.getD j 0) := by
    unfold iD
    rw [List.getD_eq_getElem?_getD, List.getElem?_map, List.getElem?_eq_getElem hjr, List.getD_eq_getElem?_getD, List.getElem?_eq_getElem hjr]
    rfl
   show _ = some (Re.ok ((iD r).getD j (.int 0)) .strong)
   rw [e]
   exact q0l (q0b rfl) (q0b rfl) (q8j hjr))
 rw [List.map_map] at cm
 refine cm.trans ?_
 congr 3
 unfold iD col
 rw [List.map_map]
 apply List.map_congr_left
 intro r hr
 have hjr : j < r.length := by rw [hm r hr]; exact hj
 show (iD r).getD j (.int 0) = .int (r.getD j 0)
 unfold iD
 rw [List.getD_eq_getElem?_getD, List.getElem?_map, List.getElem?_eq_getElem hjr, List.getD_eq_getElem?_getD, List.getElem?_eq_getElem hjr]
 rfl
theorem q9n (rows : List (List Int)) (n m : Nat) (R : Rect n m rows) (hn : 0 < n) (hn2 : n <= 1000) (hm2 : m <= 1000) : run G T fu (k + 1) 1 [tT rows] = some (.v (tT (flip m rows)) false) := by
 rw [q0u (fd := q3a) rfl rfl]
 obtain ⟨r0, rest, rfl⟩ : ∃ r0 rest, rows = r0 :: rest := by
  cases rows with
  | nil => have := R.1; simp at this; omega
  | cons a b => exact ⟨a, b, rfl⟩
 have hr0 : r0.length = m := R.2 r0 (List.mem_cons_self ..)
 have hl : evE G (run G T fu k) (.bi .len [.ix (.var 0) (.int 0)]) (q0i 1 [tT (r0 :: rest)]) = some (.ok (.int (m : Nat)) .strong) := by
  have e : evE G (run G T fu k) (.ix (.var 0) (.int 0)) (q0i 1 [tT (r0 :: rest)]) = some (.ok (.tup (iD r0)) .strong) := q0l (x := tT (r0 :: rest)) (y := .int 0) (q0b rfl) q0c (by
   have h0 : (0 : Int) < (((r0 :: rest).map λ r => DV.tup (iD r)).length : Int) := by simp
   simp only [tT, ixD, atD, q1g, if_pos (Int.le_refl 0), if_pos h0, Option.bind_some]
   rfl)
  have q := q6A e
  rw [show (iD r0).length = m by unfold iD; rw [List.length_map, hr0]] at q
  exact q
 have cm := q5l (G := G) (F := run G T fu k) (δ := q0i 1 [tT (r0 :: rest)]) (elt := .bi .tuple [.comp (.ix (.var 0) (.var 1)) (.one 0) (.var 1) [none, some 0]]) (tg := .one 0) (it := .rng [.bi .len [.ix (.var 0) (.int 0)]]) (fr := [none, some 0]) (f := λ d => match d with | .int j => .tup (iD (col (r0 :: rest) j.toNat)) | d => d) (ds := upTo 0 m) (cl := .fresh)
  (q8d hl hm2) (by decide) (by unfold L2.upTo; rw [List.length_map, List.length_range]; exact Nat.le_trans hm2 (by decide)) (λ d hd => by
   obtain ⟨j, hj, rfl⟩ := q5w hd
   rw [show (0 : Int) + (j : Int) = j by omega]
   refine ⟨[.val (.int j), .val (tT (r0 :: rest))], rfl, ?_⟩
   show _ = some (Re.ok (.tup (iD (col (r0 :: rest) (j : Int).toNat))) .strong)
   rw [Int.toNat_natCast]
   exact q2F (z7g (r0 :: rest) m j R.2 hj (by rw [R.1]; exact hn2)))
 have hf : (upTo 0 m).map (λ d => match d with | .int j => DV.tup (iD (col (r0 :: rest) j.toNat)) | d => d) = (flip m (r0 :: rest)).map λ r => .tup (iD r) := by
  unfold L2.upTo flip
  rw [List.map_map, List.map_map]
  apply List.map_congr_left
  intro j _
  show DV.tup (iD (col (r0 :: rest) ((0 : Int) + (j : Int)).toNat)) = _
  rw [show ((0 : Int) + (j : Int)).toNat = j by omega]
  rfl
 rw [hf] at cm
 unfold q3a
 exact q0W (q0T (q0P (q2F cm)))
theorem z4I {rows : List (List Int)} {i : Nat} (h : i < rows.length) : ixD (tT rows) (.int i) = some (.tup (iD (rows.getD i []))) := by
 have hh : (i : Int) < ((rows.map λ r => DV.tup (iD r)).length : Int) := by rw [List.length_map]; exact_mod_cast h
 simp only [tT, ixD, atD, q1g, if_pos (Int.natCast_nonneg i), if_pos hh, Option.bind_some, Int.toNat_natCast, List.getElem?_map, List.getElem?_eq_getElem h, Option.map_some, List.getD_eq_getElem?_getD, Option.getD_some]
theorem q1J {rows : List (List Int)} {i : Nat} (h : i < rows.length) : rows.getD i [] ∈ rows := by
 rw [List.getD_eq_getElem?_getD, List.getElem?_eq_getElem h]
 exact List.getElem_mem h
theorem z0P {elt it : ME} {tg : Tg} {fr : List (Option Nat)} {f : DV -> DV} (hw : q1b (evE G F it δ) = some (.ok ds cl)) (hc : cl ≠ .weak) (hl : ds.length <= mostLen)
  (h : ∀ d ∈ ds, ∃ δ' c, tg.bind d (q0R fr δ) = some δ' /\ evE G F elt δ' = some (.ok (f d) c) /\ stro (f d) c = true) : evE G F (.comp elt tg it fr) δ = some (.ok (.lst (ds.map f)) .fresh) := by
 show Ri.thn (q1b (evE G F it δ)) (λ ds c => if c = .weak \/ mostLen < ds.length then none else q1z (q0X (λ d => (tg.bind d (q0R fr δ)).bind λ δ' => Rc.of (evE G F elt δ')) ds)) = _
 rw [hw, q5q, if_neg (by rintro (z | z); exact hc z; omega), q3s (f := f) (λ d hd => ?_)]
 ·rfl
 ·obtain ⟨δ', c, e1, e2, e3⟩ := h d hd
  rw [e1, Option.bind_some, e2]
  show (if stro (f d) c then some (Rc.item (f d)) else none) = _
  rw [if_pos e3]
theorem z6t {e : ME} {i : Int} {cl : Cl} (h : evE G F e δ = some (.ok (.int i) cl)) (h1 : i <= 1000) (h2 : -1000 <= i) : q1b (evE G F (.rng [e]) δ) = some (.ok (upTo 0 i.toNat) .fresh) := by
 show q1b (Rs.thn (evEs G F [e] δ) (λ l => (rngD l).map λ ds => .ok (.lst ds) .fresh)) = _
 rw [q0a h q0e, q2j]
 have hs : (q1s i && decide (i <= (mostLen : Int))) = true := by
  rw [Bool.and_eq_true, decide_eq_true_iff]
  refine ⟨?_, Int.le_trans h1 (by decide)⟩
  unfold q1s
  rw [Bool.and_eq_true, decide_eq_true_iff, decide_eq_true_iff]
  exact ⟨Int.le_trans (by decide) h2, Int.lt_of_le_of_lt h1 (by decide)⟩
 show q1b ((if q1s i && decide (i <= (mostLen : Int)) then some (upTo 0 i.toNat) else none).map λ ds => .ok (.lst ds) .fresh) = _
 rw [if_pos hs]
 rfl
noncomputable def q5I (n m : Nat) (ws : List Int) : List (List Int) := (List.range n).map λ j => (ws.drop (j * m)).take m
theorem q8t {n m : Nat} {ws : List Int} (h : ws.length = n * m) : Rect n m (q5I n m ws) := by
 unfold q5I
 refine ⟨by rw [List.length_map, List.length_range], λ r hr => ?_⟩
 obtain ⟨j, hj, rfl⟩ := List.mem_map.mp hr
 have hj' := List.mem_range.mp hj
 rw [List.length_take, List.length_drop, h]
 have : (j + 1) * m <= n * m := Nat.mul_le_mul_right m hj'
 rw [Nat.add_mul, Nat.one_mul] at this
 omega
theorem z6C {a lo hi : ME} {ds : List DV} {c c1 c2 : Cl} {l h : Int} (ha : evE G F a δ = some (.ok (.lst ds) c)) (hl : evE G F lo δ = some (.ok (.int l) c1)) (hh : evE G F hi δ = some (.ok (.int h) c2)) : evE G F (.sl a lo hi) δ = some (.ok (.lst (cutD ds (some l) (some h))) (Cl.anew c c)) := by
 unfold evE
 rw [ha, q0J, hl, q0J]
 show Re.thn (evE G F hi δ) _ = _
 rw [hh]
 rfl
theorem z2i {ws : List Int} {n m j : Nat} (h : ws.length = n * m) (hj : j < n) : cutD (iD ws) (some ((j : Int) * m)) (some ((j : Int) * m + m)) = iD ((ws.drop (j * m)).take m) := by
 have e1 : ((j : Int) * m) = ((j * m : Nat) : Int) := by push_cast; rfl
 have e2 : ((j : Int) * m + m) = ((j * m + m : Nat) : Int) := by push_cast; rfl
 have le : j * m + m <= n * m := by
  have : (j + 1) * m <= n * m := Nat.mul_le_mul_right m hj
  rw [Nat.add_mul, Nat.one_mul] at this
  exact this
 have len : (iD ws).length = n * m := by unfold iD; rw [List.length_map, h]
 unfold cutD slIx
 rw [e2, e1]
 simp only [len]
 rw [if_neg (by omega), if_neg (by omega), Int.toNat_natCast, Int.toNat_natCast, Nat.min_eq_left le, Nat.min_eq_left (show j * m <= n * m by omega), show j * m + m - j * m = m by omega]
 unfold iD
 rw [← List.map_drop, ← List.map_take]
theorem z5m {n j : Nat} (h : j < n) : q1g n (j : Int) = some j := by
 unfold q1g
 rw [if_pos (Int.natCast_nonneg j), if_pos (by omega), Int.toNat_natCast]
theorem z5f {F : Nat -> List DV -> Option Ou} {δ : List Sv} {es : List ME} {l : List (DV × Cl)} (h : evEs G F es δ = some (.ok l)) : evE G F (.bi .min es) δ = minD l := by
 have e : evE G F (.bi .min es) δ = Rs.thn (evEs G F es δ) (λ l => minD l) := rfl
 rw [e, h]
 rfl
theorem z1Z (ns : List Int) (hns : ns.length <= 63) (tp : Int) (htp : 0 < tp) : ∃ (n m : Nat) (rows : List (List Int)), 0 < n /\ n <= 8 /\ 0 < m /\ m <= 8 /\ Rect n m rows /\ (∀ r ∈ rows, ∀ x ∈ r, 0 <= x /\ x < tp) /\ run G T fu (k + 2) 15 [.scr ns, .int 4, .int tp] = some (.v (rL rows) true) := by
 obtain ⟨v0, c0⟩ := q7c (fu := fu) (k := k) ns 0
 obtain ⟨v1, c1⟩ := q7c (fu := fu) (k := k) ns 1
 obtain ⟨xs, hx, st0⟩ := q3N (fu := fu) (k := k) v0 3 (by decide)
 obtain ⟨a0, h0⟩ := q2Z (l := xs) (i := 0) (by omega) (by rw [hx]; omega)
 obtain ⟨a1, h1⟩ := q2Z (l := xs) (i := 1) (by omega) (by rw [hx]; omega)
 obtain ⟨n, hn⟩ : ∃ n : Nat, 1 + a0 % 8 = (n : Int) := ⟨(1 + a0 % 8).toNat, by omega⟩
 obtain ⟨m, hm⟩ : ∃ m : Nat, 1 + a1 % 8 = (m : Int) := ⟨(1 + a1 % 8).toNat, by omega⟩
 have n8 : n <= 8 := by omega
 have m8 : m <= 8 := by omega
 have nm : n * m <= 64 := Nat.le_trans (Nat.mul_le_mul n8 m8) (by decide)
 obtain ⟨ws0, hw0, st1⟩ := q3N (fu := fu) (k := k) v1 (n * m) (by omega)
 have mk1 : q3o (n : Int) (m : Int) = true := by unfold q3o; simp; omega
 have cm := q5l (G := G) (F := run G T fu (k + 1)) (δ := [.val (.scr ns), .val (.int 4), .val (.int tp), .val (.lst (xs.map DV.int)), .val (.int n), .val (.int m), .no, .no]) (elt := .bin .Mod (.var 0) (.var 1)) (tg := .one 0) (it := .call 14 [.call 13 [.var 0, .int 1], .bin .Mult (.var 4) (.var 5)]) (fr := [none, some 2]) (f := λ d => match d with | .int x => .int (x % tp) | d => d) (ds := ws0.map DV.int) (cl := .fresh)
  (by
   have q := q0f (G := G) (F := run G T fu (k + 1)) (δ := [.val (.scr ns), .val (.int 4), .val (.int tp), .val (.lst (xs.map DV.int)), .val (.int n), .val (.int m), .no, .no]) (f := 14) (q0a (q0f (f := 13) (q0a (q0b (n := 0) (d := .scr ns) rfl) (q0a (q0c (i := 1)) q0e)) rfl c1) (q0a (q5E (q0b (n := 4) (d := .int n) rfl) (q0b (n := 5) (d := .int m) rfl) mk1) q0e)) rfl (by rw [show ((n : Int) * (m : Int)) = ((n * m : Nat) : Int) by push_cast; rfl]; exact st1)
   rw [q]
   rfl) (by decide) (by rw [List.length_map, hw0]; exact Nat.le_trans nm (by decide)) (λ d hd => by
   obtain ⟨x, hx, rfl⟩ := List.mem_map.mp hd
   exact ⟨[.val (.int x), .val (.int tp)], rfl, q1w (q0b rfl) (q0b rfl) htp⟩)
 rw [List.map_map, show ((λ d => match d with | DV.int x => DV.int (x % tp) | d => d) ∘ DV.int) = DV.int ∘ (λ x : Int => x % tp) from rfl, ← List.map_map] at cm
 obtain ⟨b, hb, hb1, hb2⟩ : ∃ b : Int, (if (ns.length : Int) - 4 < (n : Int) * m then (ns.length : Int) - 4 else (n : Int) * m) = b /\ b <= ((n * m : Nat) : Int) /\ b <= (ns.length : Int) - 4 := by
  refine ⟨_, rfl, ?_, ?_⟩ <;> split <;> push_cast <;> omega
 have hb3 : -1000 <= b := by
  rw [← hb]
  have : (0 : Int) <= (n : Int) * m := Int.mul_nonneg (Int.natCast_nonneg n) (Int.natCast_nonneg m)
  split <;> omega
 obtain ⟨δ1, l1, ws, z, ⟨hw, hwb⟩, rfl⟩ := q4a (i := 7) (I := λ _ δ => ∃ (ws : List Int) (z : Sv), (ws.length = n * m /\ ∀ x ∈ ws, 0 <= x /\ x < tp) /\ δ = [.val (.scr ns), .val (.int 4), .val (.int tp), .val (.lst (xs.map DV.int)), .val (.int n), .val (.int m), .own (.lst (ws.map DV.int)), z])
  (body := λ δ' => evSs G (run G T fu (k + 1)) fu [.seti 6 (.var 7) (.bin .Mod (.ix (.var 0) (.bin .Add (.var 1) (.var 7))) (.var 2))] δ') b.toNat 0 (δ := [.val (.scr ns), .val (.int 4), .val (.int tp), .val (.lst (xs.map DV.int)), .val (.int n), .val (.int m), .own (.lst ((ws0.map λ x => x % tp).map DV.int)), .no])
  (λ j hj δ I => by
   obtain ⟨ws, z, ⟨hw, hwb⟩, rfl⟩ := I
   rw [show (0 : Int) + (j : Int) = j by omega]
   have h3 : 4 + j < ns.length := by omega
   have hv : ixD (.scr ns) (.int (4 + (j : Int))) = some (.int ns[4 + j]) := by
    rw [show (4 : Int) + (j : Int) = ((4 + j : Nat) : Int) by push_cast; rfl]
    show ((q1g ns.length ((4 + j : Nat) : Int)).bind λ j => ns[j]?).map DV.int = _
    rw [z5m h3, Option.bind_some, List.getElem?_eq_getElem h3]
    rfl
   refine ⟨_, q0F (z2p (d := .int (ns[4 + j] % tp)) (cl := .strong) (n := j) (cx := .strong) (j := j) rfl (q1w (q0l (q0b rfl) (q2g (q0b rfl) (q0b rfl)) hv) (q0b rfl) htp) (q0b rfl) rfl (z5m (by rw [List.length_map, hw]; omega))) rfl, ws.set j (ns[4 + j] % tp), .val (.int j), ⟨by rw [List.length_set]; exact hw, λ x hx => (List.mem_or_eq_of_mem_set hx).elim (hwb x) (λ e => by rw [e]; exact ⟨Int.emod_nonneg _ (by omega), Int.emod_lt_of_pos _ htp⟩)⟩, ?_⟩
   rw [List.map_set]
   rfl) ⟨ws0.map λ x => x % tp, .no, ⟨by rw [List.length_map]; exact hw0, λ x hx => by obtain ⟨y, _, rfl⟩ := List.mem_map.mp hx; exact ⟨Int.emod_nonneg _ (by omega), Int.emod_lt_of_pos _ htp⟩⟩, rfl⟩
 have em : evE G (run G T fu (k + 1)) (.bi .min [.bin .Mult (.var 4) (.var 5), .bin .Sub (.bi .len [.var 0]) (.var 1)]) [.val (.scr ns), .val (.int 4), .val (.int tp), .val (.lst (xs.map DV.int)), .val (.int n), .val (.int m), .own (.lst ((ws0.map λ x => x % tp).map DV.int)), .no] = some (.ok (.int b) .strong) := by
  have e1 : evE G (run G T fu (k + 1)) (.bi .len [.var 0]) [.val (.scr ns), .val (.int 4), .val (.int tp), .val (.lst (xs.map DV.int)), .val (.int n), .val (.int m), .own (.lst ((ws0.map λ x => x % tp).map DV.int)), .no] = some (.ok (.int ns.length) .strong) := rfl
  rw [z5f (q0a (q5E (q0b (n := 4) (d := .int n) rfl) (q0b (n := 5) (d := .int m) rfl) mk1) (q0a (q9x e1 (q0b (n := 1) (d := .int 4) rfl)) q0e)), ← hb]
  rfl
 have rt := z0P (F := run G T fu (k + 1)) (δ := [.val (.scr ns), .val (.int 4), .val (.int tp), .val (.lst (xs.map DV.int)), .val (.int n), .val (.int m), .own (.lst (ws.map DV.int)), z]) (elt := .sl (.var 1) (.bin .Mult (.var 0) (.var 2)) (.bin .Add (.bin .Mult (.var 0) (.var 2)) (.var 2))) (tg := .one 0) (it := .rng [.var 4]) (fr := [none, some 6, some 5]) (f := λ d => match d with | .int j => .lst (iD ((ws.drop (j.toNat * m)).take m)) | d => d) (ds := upTo 0 n) (cl := .fresh)
  (q8d (q0b rfl) (by omega)) (by decide) (by unfold L2.upTo; rw [List.length_map, List.length_range]; exact Nat.le_trans n8 (by decide)) (λ d hd => by
   obtain ⟨j, hj, rfl⟩ := q5w hd
   rw [show (0 : Int) + (j : Int) = j by omega]
   have mk2 : q3o (j : Int) (m : Int) = true := by unfold q3o; simp; omega
   refine ⟨[.val (.int j), .own (.lst (iD ws)), .val (.int m)], .fresh, rfl, ?_, rfl⟩
   show _ = some (Re.ok (.lst (iD ((ws.drop ((j : Int).toNat * m)).take m))) .fresh)
   rw [Int.toNat_natCast, ← z2i hw hj]
   exact z6C (q9Z rfl) (q5E (q0b rfl) (q0b rfl) mk2) (q2g (q5E (q0b rfl) (q0b rfl) mk2) (q0b rfl)))
 have hf : (upTo 0 n).map (λ d => match d with | .int j => DV.lst (iD ((ws.drop (j.toNat * m)).take m)) | d => d) = (q5I n m ws).map λ r => .lst (iD r) := by
  unfold L2.upTo q5I
  rw [List.map_map, List.map_map]
  apply List.map_congr_left
  intro j _
  show DV.lst (iD ((ws.drop (((0 : Int) + (j : Int)).toNat * m)).take m)) = _
  rw [show ((0 : Int) + (j : Int)).toNat = j by omega]
  rfl
 rw [hf] at rt
 refine ⟨n, m, q5I n m ws, by omega, n8, by omega, m8, q8t hw, λ r hr x hx => by obtain ⟨j, _, rfl⟩ := List.mem_map.mp hr; exact hwb x (List.mem_of_mem_drop (List.mem_of_mem_take hx)), ?_⟩
 rw [q0u (fd := q1L) rfl rfl]
 unfold q1L
 exact q0W (q0F (q0y (q0f (q0a (q0f (q0a (q0b rfl) (q0a q0c q0e)) rfl c0) (q0a q0c q0e)) rfl st0) rfl) (q0F (q0y (d := .int n) (cl := .strong) (by rw [← hn]; exact q2g q0c (q1w (q0l (q0b rfl) q0c h0) q0c (by decide))) rfl) (q0F (q0y (d := .int m) (cl := .strong) (by rw [← hm]; exact q2g q0c (q1w (q0l (q0b rfl) q0c h1) q0c (by decide))) rfl) (q0F (q9C cm) (q6k (z6t em (by omega) hb3) (.inr rfl) l1 (q0T (q0P rt)))))))
theorem q8l {n m : Nat} {rows : List (List Int)} (R : Rect n m rows) : Rect m n (flip m rows) := by
 unfold flip
 refine ⟨by rw [List.length_map, List.length_range], λ r hr => ?_⟩
 obtain ⟨j, hj, rfl⟩ := List.mem_map.mp hr
 unfold col
 rw [List.length_map, R.1]
theorem q6G {rows : List (List Int)} {i : Nat} (h : i < rows.length) : ixD (rL rows) (.int i) = some (.lst (iD (rows.getD i []))) := by
 have hh : (i : Int) < ((rows.map λ r => DV.lst (iD r)).length : Int) := by rw [List.length_map]; exact_mod_cast h
 simp only [rL, ixD, atD, q1g, if_pos (Int.natCast_nonneg i), if_pos hh, Option.bind_some, Int.toNat_natCast, List.getElem?_map, List.getElem?_eq_getElem h, Option.map_some, List.getD_eq_getElem?_getD, Option.getD_some]
theorem z5Y {F : Nat -> List DV -> Option Ou} {δ : List Sv} {es : List ME} {l : List (DV × Cl)} (h : evEs G F es δ = some (.ok l)) (hl : l.length <= mostLen) (hs : stros l = true) : evE G F (.lst es) δ = some (.ok (.lst (l.map (·.1))) .fresh) := by
 have e : evE G F (.lst es) δ = Rs.thn (evEs G F es δ) (λ l => if l.length <= mostLen then some (.ok (.lst (l.map (·.1))) (if stros l then .fresh else .weak)) else none) := rfl
 rw [e, h, q2j, if_pos hl, hs]
 rfl
theorem q4r {α : Type} {g : DV -> Option Rc} {h f : α -> DV} : ∀ {l : List α}, (∀ a ∈ l, g (h a) = some (.item (f a))) -> q0X g (l.map h) = some (l.map f)
 | [], _ => rfl
 | a :: r, q => by
  rw [List.map_cons, List.map_cons]
  unfold q0X
  rw [q a (List.mem_cons_self ..)]
  show (match q0X g (r.map h) with | none => none | some xs => some (f a :: xs)) = _
  rw [q4r λ x hx => q x (List.mem_cons_of_mem _ hx)]
theorem q6Q {α : Type} {l : List α} {h f : α -> DV} {elt it : ME} {tg : Tg} {fr : List (Option Nat)} (hw : q1b (evE G F it δ) = some (.ok (l.map h) cl)) (hc : cl ≠ .weak) (hl : l.length <= mostLen)
  (q : ∀ a ∈ l, ∃ δ' c, tg.bind (h a) (q0R fr δ) = some δ' /\ evE G F elt δ' = some (.ok (f a) c) /\ stro (f a) c = true) : evE G F (.comp elt tg it fr) δ = some (.ok (.lst (l.map f)) .fresh) := by
 show Ri.thn (q1b (evE G F it δ)) (λ ds c => if c = .weak \/ mostLen < ds.length then none else q1z (q0X (λ d => (tg.bind d (q0R fr δ)).bind λ δ' => Rc.of (evE G F elt δ')) ds)) = _
 rw [hw, q5q, if_neg (by rintro (z | z); exact hc z; rw [List.length_map] at z; omega), q4r (f := f) (λ a ha => ?_)]
 ·rfl
 ·obtain ⟨δ', c, e1, e2, e3⟩ := q a ha
  rw [e1, Option.bind_some, e2]
  show (if stro (f a) c then some (Rc.item (f a)) else none) = _
  rw [if_pos e3]
end k14
end
section
namespace k14
open PySem L2
variable {fu k : Nat} {F : Nat -> List DV -> Option Ou} {δ : List Sv} {ds : List DV} {cl : Cl}
noncomputable def Okp : Pl -> Prop
 | .fin v => 0 <= v /\ v <= 9
 | .ask _ c a b => 1 <= c /\ c <= 255 /\ Okp a /\ Okp b
section
variable {G : Gs} {d : DV} {r : List MS}
theorem z5P (h : evSs G F fu r δ = some (.rtt d)) : Ou.of (evSs G F fu r δ) = some (.t d) := by rw [h]; rfl
theorem z5R {m : MS} (h : evS G F fu m δ = some (.rtt d)) : evSs G F fu (m :: r) δ = some (.rtt d) := by
 unfold evSs
 rw [h]
theorem z2t {es : List ME} {ds : List DV} {l : List (DV × Cl)} (h : evEs G F es δ = some (.ok ((.lst ds, .top) :: l))) (hl : l.length < mostLen) (hs : stros l = true) : evS G F fu (.ret0 es) δ = some (.rtt (.tup (.lst ds :: l.map (·.1)))) := by
 show Rs.thnS δ (evEs G F es δ) (λ l => q9o l) = _
 rw [h]
 exact if_pos ⟨hl, hs⟩
theorem z1o {f : Nat} {es : List ME} {l : List (DV × Cl)} (ha : evEs G F es δ = some (.ok l)) (hs : (l.all λ p => p.2 == .strong || p.2 == .fresh) = true) (h : F f (l.map (·.1)) = some (.t d)) : evE G F (.call f es) δ = some (.ok d .ft) := by
 show Rs.thn (evEs G F es δ) (λ l => q4x F f l) = _
 rw [ha]
 show q4x F f l = _
 unfold q4x
 rw [h, hs]
 rfl
end
noncomputable def bts : Pl -> Nat -> Nat -> List Int
 | .fin _, _, _ => []
 | .ask s o a b, i, j => if o.testBit (if s then i else j) then 1 :: bts b i j else 0 :: bts a i j
noncomputable def ans (p : Pl) (i j : Nat) : DV := .tup [.lst ((bts p i j).map DV.int), .int (vl p i j)]
theorem cat1 (bs cs : List Int) (v : Int) : (bs ++ [v]) ++ cs = bs ++ v :: cs := by simp
theorem q6H (q : DV) (i j : Nat) : ∀ (p : Pl) (bs : List Int) (c d : Sv) (n : Nat), ht p < n -> bs.length + ht p <= 10000 -> ∃ (c' d' : Sv),
  q1l (λ δ' => tstD (evE G (run G T fu k) wayC δ')) (λ δ' => evSs G (run G T fu k) fu wayB δ') n [.val q, .val (.int i), .val (.int j), .own (.lst (bs.map DV.int)), .val (dv p), c, d] = some (.nx [.val q, .val (.int i), .val (.int j), .own (.lst ((bs ++ bts p i j).map DV.int)), .val (.tup [.str "end", .int (vl p i j)]), c', d'])
 | p, _, _, _, 0, h, _ => absurd h (Nat.not_lt_zero _)
 | .fin v, bs, c, d, n + 1, _, _ => ⟨c, d, by
   rw [show bts (.fin v) i j = [] from rfl, List.append_nil]
   exact q9q (q0r (cl := .strong) (by simp [wayC, evE, q0J, dv, ixD, atD, q1g, z1G]))⟩
 | .ask s o a b, bs, c, d, n + 1, h, hl => by
  unfold ht at h hl
  have st := λ t ht => z0R (fu := fu) (k := k) q s o a b i j (bs.map DV.int) c d (by rw [List.length_map]; omega) t ht
  cases t : o.testBit (if s then i else j) with
  | true =>
   obtain ⟨c', d', e⟩ := q6H q i j b (bs ++ [1]) (.val (.int ((if s then i else j : Nat) : Int))) (.val (.int 1)) n (by omega) (by rw [List.length_append, List.length_singleton]; omega)
   refine ⟨c', d', ?_⟩
   rw [show vl (.ask s o a b) i j = vl b i j by rw [vl, t]; rfl, show bts (.ask s o a b) i j = 1 :: bts b i j by rw [bts, t]; rfl, ← cat1]
   rw [← q4Y] at e
   exact q5a (q0r (cl := .strong) (by simp [wayC, evE, q0J, dv, ixD, atD, q1g, q7m])) (st true t) e
  | false =>
   obtain ⟨c', d', e⟩ := q6H q i j a (bs ++ [0]) (.val (.int ((if s then i else j : Nat) : Int))) (.val (.int 0)) n (by omega) (by rw [List.length_append, List.length_singleton]; omega)
   refine ⟨c', d', ?_⟩
   rw [show vl (.ask s o a b) i j = vl a i j by rw [vl, t]; rfl, show bts (.ask s o a b) i j = 0 :: bts a i j by rw [bts, t]; rfl, ← cat1]
   rw [← q4Y] at e
   exact q5a (q0r (cl := .strong) (by simp [wayC, evE, q0J, dv, ixD, atD, q1g, q7m])) (st false t) e
theorem z6H (p : Pl) (i j : Nat) (h : ht p < fu) (hl : ht p <= 10000) : run G T fu (k + 1) 2 [dv p, .int i, .int j] = some (.t (ans p i j)) := by
 obtain ⟨c', d', e⟩ := q6H (fu := fu) (k := k) (dv p) i j p [] .no .no fu h (by rw [List.length_nil]; omega)
 rw [List.nil_append] at e
 rw [q0u (fd := z0M) rfl rfl]
 unfold z0M
 exact z5P (q0F (q9C rfl) (q0F (q0y (d := dv p) (cl := .strong) rfl rfl) (z5G e (z5R (z2t (l := [(.int (vl p i j), .strong)]) (q0a (q9Z rfl) (q0a (q0l (q0b rfl) q0c rfl) q0e)) (Nat.lt_of_lt_of_le (Nat.lt_succ_self 1) (by decide)) rfl)))))
theorem z3p (o i : Nat) (t : Bool) (h : o.testBit i = t) : (o : Int) / ((2 ^ i : Nat) : Int) % 2 = if t then 1 else 0 := by
 rw [Nat.testBit_eq_decide_div_mod_eq] at h
 have e : (o : Int) / ((2 ^ i : Nat) : Int) % 2 = ((o / 2 ^ i % 2 : Nat) : Int) := by push_cast; rfl
 rw [e]
 have : o / 2 ^ i % 2 = 0 \/ o / 2 ^ i % 2 = 1 := by omega
 subst h
 rcases this with h | h <;> rw [h] <;> rfl
noncomputable def flp : Pl -> Pl
 | .fin v => .fin v
 | .ask s o a b => .ask (!s) o (flp a) (flp b)
theorem q5b : ∀ p, ht (flp p) = ht p
 | .fin _ => rfl
 | .ask s o a b => by unfold flp ht; rw [q5b a, q5b b]
theorem z7e (s : Bool) : gdxD G "OTHER_SIDE" (side s) = some (side (!s)) := by cases s <;> rfl
theorem z0A {e : ME} {c : Cl} (s : Bool) (h : evE G F e δ = some (.ok (side s) c)) : evE G F (.gdx "OTHER_SIDE" e) δ = some (.ok (side (!s)) .strong) := by
 have q : (G.dcs.lookup (Str.ofString "OTHER_SIDE")).isSome = true := rfl
 show (if (G.dcs.lookup (Str.ofString "OTHER_SIDE")).isSome then Re.thn (evE G F e δ) (λ y _ => (gdxD G (Str.ofString "OTHER_SIDE") y).map λ d => .ok d .strong) else none) = _
 rw [if_pos q, h, q0J, z7e]
 rfl
theorem q8V : ∀ (p : Pl) (k : Nat), ht p < k -> run G T fu k 12 [dv p] = some (.v (dv (flp p)) false)
 | p, 0, h => absurd h (Nat.not_lt_zero _)
 | .fin v, k + 1, _ => by
  rw [q0u (fd := q0V) rfl rfl]
  unfold q0V
  exact q0W (q2o (q0r (cl := .strong) (by simp [evE, dv, q0i, q0J, ixD, atD, q1g, q7A])) (q0T rfl))
 | .ask s o a b, k + 1, h => by
  unfold ht at h
  have ha := q8V a k (by omega)
  have hb := q8V b k (by omega)
  rw [q0u (fd := q0V) rfl rfl]
  unfold q0V
  refine q0W (q1m (q0r (cl := .strong) (by simp [evE, dv, q0i, q0J, ixD, atD, q1g, q9J])) (q0T (q0P (cl := .strong) (q1S (l := [(.str "ask", .strong), (side (!s), .strong), (.int o, .strong), (dv (flp a), .strong), (dv (flp b), .strong)]) ?_ (show 5 <= mostLen by decide) rfl))))
  exact q0a q0I (q0a (z0A s (q0l (q0b rfl) q0c rfl)) (q0a (q0l (q0b rfl) q0c rfl) (q0a (q0f (q0a (q0l (q0b rfl) q0c rfl) q0e) rfl ha) (q0a (q0f (q0a (q0l (q0b rfl) q0c rfl) q0e) rfl hb) q0e))))
theorem z3C (n : Int) : ∃ s : Bool, ixD (.lst [.str "row", .str "column"]) (.int (n % 2)) = some (side s) := by
 have : n % 2 = 0 \/ n % 2 = 1 := by omega
 rcases this with h | h
 ·exact ⟨true, by rw [h]; rfl⟩
 ·exact ⟨false, by rw [h]; rfl⟩
theorem q7s (n : Int) : ∃ o : Nat, 1 + n % 255 = (o : Int) := ⟨(1 + n % 255).toNat, by omega⟩
theorem z7h {F : Nat -> List DV -> Option Ou} {δ : List Sv} : evE G F (.lst [.str "row", .str "column"]) δ = some (.ok (.lst [.str "row", .str "column"]) .fresh) := rfl
theorem z5F (xs : List Int) (hx : xs.length = 50) : ∀ (d : Nat) (at' : Int), ∃ p : Pl, Okp p /\ ht p <= d /\ lv p <= 2 ^ d /\ ∀ k, d < k -> run G T fu k 17 [.lst (xs.map DV.int), .int at', .int d, .int 3] = some (.v (dv p) false) := by
 intro d
 induction d with
 | zero =>
  intro at'
  obtain ⟨n, hn⟩ := q2Z (l := xs) (i := at' % 50) (by omega) (by rw [hx]; omega)
  refine ⟨.fin (n / 7 % 10), ⟨by omega, by omega⟩, Nat.le_refl _, Nat.le_refl _, λ k hk => ?_⟩
  obtain ⟨k, rfl⟩ : ∃ k', k = k' + 1 := ⟨k - 1, by omega⟩
  rw [q0u (fd := q0Z) rfl rfl]
  unfold q0Z
  have hlen : evE G (run G T fu k) (.bi .len [.var 0]) (q0i 8 [.lst (xs.map DV.int), .int at', .int (0 : Nat), .int 3]) = some (.ok (.int 50) .strong) := by
   simp [evE, evEs, q2j, biOk, biD, lenD, q0i, hx]
  refine q0W (q0F (q0y (d := .int n) (cl := .strong) (q0l (q0b rfl) (q1w (q0b rfl) hlen (by decide)) hn) rfl) (q2o (q0r (q9d (b_eq (i := 0) (j := 0) (q0b rfl) q0c))) (q0T (q0P (cl := .strong) ?_))))
  have e := q1w (q6r (q0b (G := G) (F := run G T fu k) (n := 4) (d := .int n) (δ := ((q0i 8 [.lst (xs.map DV.int), .int at', .int (0 : Nat), .int 3]).set 4 (.val (.int n)))) rfl) (q0c (i := 7)) (by decide)) (q0c (i := 10)) (by decide)
  exact q1S (q0a q0I (q0a e q0e)) (Nat.le_of_ble_eq_true rfl) rfl
 | succ d ih =>
  intro at'
  obtain ⟨n, hn⟩ := q2Z (l := xs) (i := at' % 50) (by omega) (by rw [hx]; omega)
  obtain ⟨s, hs⟩ := z3C (n / 7)
  obtain ⟨o, ho⟩ := q7s (n / 14)
  obtain ⟨a, a0, a1, a2, a3⟩ := ih (2 * at' + 1)
  obtain ⟨b, b0, b1, b2, b3⟩ := ih (2 * at' + 2)
  have hd : ((d + 1 : Nat) : Int) - 1 = (d : Int) := by omega
  by_cases hc : n % 7 = 0 /\ ((d + 1 : Nat) : Int) < 3
  ·refine ⟨.fin (n / 7 % 10), ⟨by omega, by omega⟩, Nat.zero_le _, Nat.one_le_two_pow, λ k hk => ?_⟩
   obtain ⟨k, rfl⟩ : ∃ k', k = k' + 1 := ⟨k - 1, by omega⟩
   rw [q0u (fd := q0Z) rfl rfl]
   unfold q0Z
   have hlen : evE G (run G T fu k) (.bi .len [.var 0]) (q0i 8 [.lst (xs.map DV.int), .int at', .int ((d + 1 : Nat) : Int), .int 3]) = some (.ok (.int 50) .strong) := by
    simp [evE, evEs, q2j, biOk, biD, lenD, q0i, hx]
   have e1 : (((d + 1 : Nat) : Int) == 0) = false := by rw [beq_eq_false_iff_ne]; omega
   have e2 : (n % 7 == 0) = true := by rw [beq_iff_eq]; exact hc.1
   have e3 : decide (((d + 1 : Nat) : Int) < 3) = true := decide_eq_true hc.2
   have t1 := b_eq (q0b (G := G) (F := run G T fu k) (n := 2) (d := .int ((d + 1 : Nat) : Int)) (δ := ((q0i 8 [.lst (xs.map DV.int), .int at', .int ((d + 1 : Nat) : Int), .int 3]).set 4 (.val (.int n)))) rfl) (q0c (i := 0))
   have t2 := b_eq (q1w (q0b (G := G) (F := run G T fu k) (n := 4) (d := .int n) (δ := ((q0i 8 [.lst (xs.map DV.int), .int at', .int ((d + 1 : Nat) : Int), .int 3]).set 4 (.val (.int n)))) rfl) (q0c (i := 7)) (by decide)) (q0c (i := 0))
   have t3 := b_lt (q0b (G := G) (F := run G T fu k) (n := 2) (d := .int ((d + 1 : Nat) : Int)) (δ := ((q0i 8 [.lst (xs.map DV.int), .int at', .int ((d + 1 : Nat) : Int), .int 3]).set 4 (.val (.int n)))) rfl) (q0b (n := 3) (d := .int 3) rfl)
   rw [e1] at t1
   rw [e2] at t2
   rw [e3] at t3
   refine q0W (q0F (q0y (d := .int n) (cl := .strong) (q0l (q0b rfl) (q1w (q0b rfl) hlen (by decide)) hn) rfl) (q2o (q0r (q3p t1 (q5z t2 t3))) (q0T (q0P (cl := .strong) ?_))))
   have e := q1w (q6r (q0b (G := G) (F := run G T fu k) (n := 4) (d := .int n) (δ := ((q0i 8 [.lst (xs.map DV.int), .int at', .int ((d + 1 : Nat) : Int), .int 3]).set 4 (.val (.int n)))) rfl) (q0c (i := 7)) (by decide)) (q0c (i := 10)) (by decide)
   exact q1S (q0a q0I (q0a e q0e)) (Nat.le_of_ble_eq_true rfl) rfl
  ·refine ⟨.ask s o a b, ⟨by omega, by omega, a0, b0⟩, by unfold ht; omega, by unfold lv; rw [Nat.pow_succ]; omega, λ k hk => ?_⟩
   obtain ⟨k, rfl⟩ : ∃ k', k = k' + 1 := ⟨k - 1, by omega⟩
   have a4 := a3 k (by omega)
   have b4 := b3 k (by omega)
   rw [← hd] at a4 b4
   rw [q0u (fd := q0Z) rfl rfl]
   unfold q0Z
   have hlen : evE G (run G T fu k) (.bi .len [.var 0]) (q0i 8 [.lst (xs.map DV.int), .int at', .int ((d + 1 : Nat) : Int), .int 3]) = some (.ok (.int 50) .strong) := by
    simp [evE, evEs, q2j, biOk, biD, lenD, q0i, hx]
   have e1 : (((d + 1 : Nat) : Int) == 0) = false := by rw [beq_eq_false_iff_ne]; omega
   have t1 := b_eq (q0b (G := G) (F := run G T fu k) (n := 2) (d := .int ((d + 1 : Nat) : Int)) (δ := ((q0i 8 [.lst (xs.map DV.int), .int at', .int ((d + 1 : Nat) : Int), .int 3]).set 4 (.val (.int n)))) rfl) (q0c (i := 0))
   have t2 := b_eq (q1w (q0b (G := G) (F := run G T fu k) (n := 4) (d := .int n) (δ := ((q0i 8 [.lst (xs.map DV.int), .int at', .int ((d + 1 : Nat) : Int), .int 3]).set 4 (.val (.int n)))) rfl) (q0c (i := 7)) (by decide)) (q0c (i := 0))
   have t3 := b_lt (q0b (G := G) (F := run G T fu k) (n := 2) (d := .int ((d + 1 : Nat) : Int)) (δ := ((q0i 8 [.lst (xs.map DV.int), .int at', .int ((d + 1 : Nat) : Int), .int 3]).set 4 (.val (.int n)))) rfl) (q0b (n := 3) (d := .int 3) rfl)
   rw [e1] at t1
   have t4 : evE G (run G T fu k) (.and [.cmp .Eq (.bin .Mod (.var 4) (.int 7)) (.int 0), .cmp .Lt (.var 2) (.var 3)]) ((q0i 8 [.lst (xs.map DV.int), .int at', .int ((d + 1 : Nat) : Int), .int 3]).set 4 (.val (.int n))) = some (.ok (.bl false) .strong) := by
    cases z : (n % 7 == 0) with
    | false => rw [z] at t2; exact z0S (t := true) t2
    | true =>
     rw [z] at t2
     rw [decide_eq_false (λ q => hc ⟨beq_iff_eq.mp z, q⟩)] at t3
     exact q5z t2 t3
   have m2 : ∀ x : Int, q3o 2 x = true := λ x => by unfold q3o; simp
   refine q0W (q0F (q0y (d := .int n) (cl := .strong) (q0l (q0b rfl) (q1w (q0b rfl) hlen (by decide)) hn) rfl) (q1m (q0r (q3p t1 t4)) (q0F (q0y (d := side s) (cl := .strong) (q0l z7h (q1w (q6r (q0b rfl) q0c (by decide)) q0c (by decide)) hs) rfl)
    (q0F (q0y (d := .int o) (cl := .strong) (by rw [← ho]; exact q2g q0c (q1w (q6r (q0b rfl) q0c (by decide)) q0c (by decide))) rfl)
    (q0F (q0y (d := dv a) (cl := .strong) (q0f (q0a (q0b rfl) (q0a (q2g (q5E q0c (q0b rfl) (m2 _)) q0c) (q0a (q9x (q0b rfl) q0c) (q0a (q0b rfl) q0e)))) rfl a4) rfl) (q0T (q0P (cl := .strong) ?_)))))))
   exact q1S (q0a q0I (q0a (q0b rfl) (q0a (q0b rfl) (q0a (q0b rfl) (q0a (q0f (q0a (q0b rfl) (q0a (q2g (q5E q0c (q0b rfl) (m2 _)) q0c) (q0a (q9x (q0b rfl) q0c) (q0a (q0b rfl) q0e)))) rfl b4) q0e))))) (Nat.le_of_ble_eq_true rfl) rfl
end k14
end
section
namespace k14
open PySem L2
section
variable {G : Gs} {F : Nat -> List DV -> Option Ou} {δ : List Sv} {a b : ME} {r : List ME} {cx : Cl} {o : Option Re}
theorem q5m (ha : evE G F a δ = some (.ok (.bl true) cx)) (hb : evE G F (.and (b :: r)) δ = o) : evE G F (.and (a :: b :: r)) δ = o := by
 have e : evE G F (.and (a :: b :: r)) δ = Re.thn (evE G F a δ) (λ x c => andD x c (q2p G F (b :: r) δ)) := by
  rw [evE, q2p]; rfl
 have e2 : evE G F (.and (b :: r)) δ = q2p G F (b :: r) δ := by rw [evE]
 rw [e, ha, q0J, ← e2, hb]
 rfl
theorem z6G (ha : evE G F a δ = some (.ok (.bl false) cx)) : evE G F (.and (a :: b :: r)) δ = some (.ok (.bl false) cx) := by
 have e : evE G F (.and (a :: b :: r)) δ = Re.thn (evE G F a δ) (λ x c => andD x c (q2p G F (b :: r) δ)) := by
  rw [evE, q2p]; rfl
 rw [e, ha, q0J]
 rfl
theorem q8q (ha : evE G F a δ = o) : evE G F (.and [a]) δ = o := by
 have e : evE G F (.and [a]) δ = evE G F a δ := by rw [evE, q2p]; rfl
 rw [e, ha]
theorem q2y {tg : Tg} {body : List Sv -> Option Out} {d : DV} {r : List DV} {δ1 δ2 : List Sv} (h1 : tg.bind d δ = some δ1) (h2 : body δ1 = some (.nx δ2)) : q1q tg body (d :: r) δ = q1q tg body r δ2 := by
 show (match tg.bind d δ with | none => none | some δ1 => match body δ1 with | some (.nx δ2) => q1q tg body r δ2 | o => o) = _
 rw [h1]
 show (match body δ1 with | some (.nx δ2) => q1q tg body r δ2 | o => o) = _
 rw [h2]
theorem q3L {tg : Tg} {body : List Sv -> Option Out} {d v : DV} {fr : Bool} {r : List DV} {δ1 : List Sv} (h1 : tg.bind d δ = some δ1) (h2 : body δ1 = some (.rt v fr)) : q1q tg body (d :: r) δ = some (.rt v fr) := by
 show (match tg.bind d δ with | none => none | some δ1 => match body δ1 with | some (.nx δ2) => q1q tg body r δ2 | o => o) = _
 rw [h1]
 show (match body δ1 with | some (.nx δ2) => q1q tg body r δ2 | o => o) = _
 rw [h2]
theorem q6X {fu : Nat} {tg : Tg} {it : ME} {ds : List DV} {cl : Cl} {body r : List MS} {d : DV} {fr : Bool} (hw : q1b (evE G F it δ) = some (.ok ds cl)) (hc : cl = .strong \/ cl = .fresh) (h : q1q tg (λ δ' => evSs G F fu body δ') ds δ = some (.rt d fr)) : evSs G F fu (.fo tg it body :: r) δ = some (.rt d fr) := by
 refine q0T ?_
 have e : evS G F fu (.fo tg it body) δ = Ri.thnS δ (q1b (evE G F it δ)) (λ ds c => if c = .strong \/ c = .fresh then q1q tg (λ δ' => evSs G F fu body δ') ds δ else none) := by rw [evS]
 rw [e, hw, z0f, if_pos hc, h]
end
variable {fu k : Nat} {F : Nat -> List DV -> Option Ou} {δ : List Sv}
theorem z1K (i j : Nat) : ∀ p, vl (flp p) j i = vl p i j := λ p => by
 induction p with
 | fin _ => rfl
 | ask s o a b ha hb => cases s <;> simp [flp, vl, ha, hb]
theorem q9r (p : Pl) (i j : Nat) (h : ht p < fu) (hl : ht p <= 10000) : run G T fu (k + 2) 3 [dv p, .int i, .int j] = some (.v (.int (vl p i j)) false) := by
 rw [q0u (fd := q3i) rfl rfl]
 unfold q3i
 exact q0W (q0T (q0P (q0l (z1o (l := [(dv p, .strong), (.int i, .strong), (.int j, .strong)]) rfl rfl (z6H p i j h hl)) q0c rfl)))
noncomputable def lrC : ME := .cmp .Eq (.ix (.var 0) (.int 0)) (.str "ask")
noncomputable def lrB : List MS := [.set 3 false (.ix (.lst [.var 1, .var 2]) (.bi .int [.cmp .Eq (.ix (.var 0) (.int 1)) (.str "column")])), .set 0 false (.ix (.var 0) (.bin .Add (.int 3) (.bin .Mod (.bin .FloorDiv (.ix (.var 0) (.int 2)) (.ix (.lst [.int 1, .int 2, .int 4, .int 8, .int 16, .int 32, .int 64, .int 128]) (.var 3))) (.int 2))))]
theorem z4M : cmpD .Eq (.str "row") (.str "column") = some false := by decide +kernel
theorem z1N : cmpD .Eq (.str "column") (.str "column") = some true := by decide +kernel
theorem q9c {e : ME} {b : Bool} {c : Cl} (h : evE G F e δ = some (.ok (.bl b) c)) : evE G F (.bi .int [e]) δ = some (.ok (.int (if b then 1 else 0)) .strong) := by
 show Rs.thn (evEs G F [e] δ) (λ l => intD l) = _
 rw [q0a h q0e]
 rfl
theorem z2v (s : Bool) (o : Nat) (a b : Pl) (i j : Nat) (hi : i < 8) (hj : j < 8) (c : Sv) (t : Bool) (ht : o.testBit (if s then i else j) = t) :
  evSs G F fu lrB [.val (dv (.ask s o a b)), .val (.int i), .val (.int j), c] = some (.nx [.val (dv (if t then b else a)), .val (.int i), .val (.int j), .val (.int ((if s then i else j : Nat) : Int))]) := by
 have hc : (if s then i else j) < 8 := by split <;> assumption
 have hb := z3p o (if s then i else j) t ht
 have p8 := pow8 hc
 have pw : (0 : Int) < ((2 ^ (if s then i else j) : Nat) : Int) /\ ((2 ^ (if s then i else j) : Nat) : Int) < 1073741824 := by
  have h1 := Nat.two_pow_pos (if s then i else j)
  have h2 : 2 ^ (if s then i else j) <= 2 ^ 8 := Nat.pow_le_pow_right (by decide) (by omega)
  constructor <;> omega
 unfold lrB
 refine q0F (q0y (d := .int ((if s then i else j : Nat) : Int)) (cl := .strong) ?_ rfl) (q0F (q0y (d := dv (if t then b else a)) (cl := .strong) ?_ rfl) rfl)
 ·have e1 : evE G F (.lst [.var 1, .var 2]) [.val (dv (.ask s o a b)), .val (.int i), .val (.int j), c] = some (.ok (.lst [.int i, .int j]) .fresh) := rfl
  cases s with
  | true => exact q0l e1 (q9c (b := false) (q1B (q0l (q0b rfl) q0c rfl) q0I z4M)) rfl
  | false => exact q0l e1 (q9c (b := true) (q1B (q0l (q0b rfl) q0c rfl) q0I z1N)) rfl
 ·refine q0l (y := .int (3 + if t then 1 else 0)) (q0b rfl) (q2g (cy := .strong) q0c ?_) (by cases t <;> rfl)
  rw [← hb]
  exact q1w (q6r (q0l (q0b rfl) q0c rfl) (q0l (x := .lst [.int 1, .int 2, .int 4, .int 8, .int 16, .int 32, .int 64, .int 128]) (cx := .fresh) rfl (q0b rfl) p8) pw) q0c (by decide)
theorem q8G (i j : Nat) (hi : i < 8) (hj : j < 8) : ∀ (p : Pl) (c : Sv) (n : Nat), ht p < n -> ∃ c' : Sv,
  q1l (λ δ' => tstD (evE G F lrC δ')) (λ δ' => evSs G F fu lrB δ') n [.val (dv p), .val (.int i), .val (.int j), c] = some (.nx [.val (.tup [.str "end", .int (vl p i j)]), .val (.int i), .val (.int j), c'])
 | p, _, 0, h => absurd h (Nat.not_lt_zero _)
 | .fin v, c, n + 1, _ => ⟨c, q9q (q0r (cl := .strong) (q1B (q0l (q0b rfl) q0c rfl) q0I z1G))⟩
 | .ask s o a b, c, n + 1, h => by
  unfold ht at h
  have st := λ t ht => z2v (fu := fu) (F := F) s o a b i j hi hj c t ht
  have tt : tstD (evE G F lrC [.val (dv (.ask s o a b)), .val (.int i), .val (.int j), c]) = some (.ok true) := q0r (cl := .strong) (q1B (q0l (q0b rfl) q0c rfl) q0I q7m)
  cases t : o.testBit (if s then i else j) with
  | true =>
   obtain ⟨c', e⟩ := q8G i j hi hj b (.val (.int ((if s then i else j : Nat) : Int))) n (by omega)
   exact ⟨c', by rw [show vl (.ask s o a b) i j = vl b i j by rw [vl, t]; rfl]; exact q5a tt (st true t) e⟩
  | false =>
   obtain ⟨c', e⟩ := q8G i j hi hj a (.val (.int ((if s then i else j : Nat) : Int))) n (by omega)
   exact ⟨c', by rw [show vl (.ask s o a b) i j = vl a i j by rw [vl, t]; rfl]; exact q5a tt (st false t) e⟩
theorem q7J (p : Pl) (i j : Nat) (hi : i < 8) (hj : j < 8) (h : ht p < fu) : run G T fu (k + 1) 22 [dv p, .int i, .int j] = some (.v (.int (vl p i j)) false) := by
 obtain ⟨c', e⟩ := q8G (fu := fu) (F := run G T fu k) i j hi hj p .no fu h
 rw [q0u (fd := q1v) rfl rfl]
 unfold q1v
 exact q0W (z5G e (q0T (q0P (q0l (q0b rfl) q0c rfl))))
theorem q3v (ds : List DV) (n : Int) : run G T fu (k + 1) 9 [.tup ds, .int n] = some (.v (.bl ((ds.length : Int) == n)) false) := by
 rw [q0u (fd := q2E) rfl rfl]
 unfold q2E
 exact q0W (q0T (q0P (q5m (cx := .strong) rfl (q8q (b_eq (q6A (q0b rfl)) (q0b rfl))))))
theorem q2t {x y : Str} {b : Bool} (h : cmpD .Eq (.str x) (.str y) = some b) : run G T fu (k + 1) 10 [.str x, .str y] = some (.v (.bl b) false) := by
 rw [q0u (fd := q3c) rfl rfl]
 unfold q3c
 exact q0W (q0T (q0P (q5m (cx := .strong) rfl (q8q (q1B (q0b rfl) (q0b rfl) h)))))
theorem q8h {v : Int} (h : 0 <= v /\ v <= 9) : run G T fu (k + 2) 7 [dv (.fin v)] = some (.v (.bl true) false) := by
 rw [q0u (fd := q2C) rfl rfl]
 unfold q2C
 have q := q7y (fu := fu) (k := k) (x := v) (a := 0) (b := 9)
 rw [decide_eq_true h.1, decide_eq_true h.2] at q
 exact q0W (q0T (q0P (cl := .strong) (q5m (q0f (l := [(dv (.fin v), .strong), (.int 2, .strong)]) rfl rfl (q3v _ 2)) (q5m (q0f (l := [(.str "end", .strong), (.str "end", .strong)]) (q0a (q0l (q0b rfl) q0c rfl) (q0a q0I q0e)) rfl (q2t q7A)) (q8q (q0f (l := [(.int v, .strong), (.int 0, .strong), (.int 9, .strong)]) (q0a (q0l (q0b rfl) q0c rfl) (q0a q0c (q0a rfl q0e))) rfl q))))))
theorem q7Z {s : Bool} {o : Nat} {a b : Pl} : run G T fu (k + 2) 7 [dv (.ask s o a b)] = some (.v (.bl false) false) := by
 rw [q0u (fd := q2C) rfl rfl]
 unfold q2C
 exact q0W (q0T (q0P (cl := .strong) (z6G (q0f (l := [(dv (.ask s o a b), .strong), (.int 2, .strong)]) rfl rfl (q3v _ 2)))))
theorem z0Y {s : Bool} {o : Nat} {a b : Pl} (h : 1 <= o /\ o <= 255) : run G T fu (k + 2) 8 [dv (.ask s o a b)] = some (.v (.bl true) false) := by
 rw [q0u (fd := q3I) rfl rfl]
 unfold q3I
 have q := q7y (fu := fu) (k := k) (x := (o : Int)) (a := 1) (b := 255)
 rw [decide_eq_true (show (1 : Int) <= o by omega), decide_eq_true (show (o : Int) <= 255 by omega)] at q
 refine q0W (q1m (q0r (cl := .strong) (q3p (q4c (x := true) (q0f (l := [(dv (.ask s o a b), .strong), (.int 5, .strong)]) rfl rfl (q3v _ 5))) (q4c (x := true) (q0f (l := [(.str "ask", .strong), (.str "ask", .strong)]) (q0a (q0l (q0b rfl) q0c rfl) (q0a q0I q0e)) rfl (q2t q7m))))) (q0T (q0P (cl := .strong) (q5z (cx := .strong) ?_ (q0f (l := [(.int o, .strong), (.int 1, .strong), (.int 255, .strong)]) (q0a (q0l (q0b rfl) q0c rfl) (q0a q0c (q0a rfl q0e))) rfl q)))))
 cases s with
 | true => exact q9d (q0f (l := [(.str "row", .strong), (.str "row", .strong)]) (q0a (q0l (q0b rfl) q0c rfl) (q0a q0I q0e)) rfl (q2t z1H))
 | false => exact q3p (q0f (l := [(.str "column", .strong), (.str "row", .strong)]) (q0a (q0l (q0b rfl) q0c rfl) (q0a q0I q0e)) rfl (q2t z1S)) (q0f (l := [(.str "column", .strong), (.str "column", .strong)]) (q0a (q0l (q0b rfl) q0c rfl) (q0a q0I q0e)) rfl (q2t z1N))
theorem q4n : ∀ (p : Pl) (d k : Nat), Okp p -> ht p <= d -> ht p + 2 < k -> run G T fu k 6 [dv p, .int d] = some (.v (.bl true) false)
 | p, _, 0, _, _, h => absurd h (Nat.not_lt_zero _)
 | p, _, 1, _, _, h => by omega
 | p, _, 2, _, _, h => by omega
 | .fin v, d, k + 3, h, _, _ => by
  rw [q0u (fd := q1P) rfl rfl]
  unfold q1P
  exact q0W (q2o (q0r (cl := .strong) (q0f (l := [(dv (.fin v), .strong)]) rfl rfl (q8h h))) (q0T rfl))
 | .ask s o a b, 0, k + 3, _, h, _ => by unfold ht at h; omega
 | .ask s o a b, d + 1, k + 3, h, hd, hk => by
  unfold ht at hd hk
  obtain ⟨h1, h2, h3, h4⟩ := h
  have ea := q4n a d (k + 2) h3 (by omega) (by omega)
  have eb := q4n b d (k + 2) h4 (by omega) (by omega)
  have hd1 : ((d + 1 : Nat) : Int) - 1 = d := by omega
  rw [← hd1] at ea eb
  rw [q0u (fd := q1P) rfl rfl]
  unfold q1P
  refine q0W (q1m (q0r (cl := .strong) (q0f (l := [(dv (.ask s o a b), .strong)]) rfl rfl q7Z)) (q0T (q0P (cl := .strong) (q5m (cx := .strong) ?_ (q5m (q0f (l := [(dv (.ask s o a b), .strong)]) rfl rfl (z0Y ⟨h1, h2⟩)) (q5m (q0f (q0a (q0l (q0b rfl) q0c rfl) (q0a (q9x (q0b rfl) q0c) q0e)) rfl ea) (q8q (q0f (q0a (q0l (q0b rfl) q0c rfl) (q0a (q9x (q0b rfl) q0c) q0e)) rfl eb))))))))
  have := b_gt (q0b (G := G) (F := run G T fu (k + 2)) (n := 1) (d := .int ((d + 1 : Nat) : Int)) (δ := q0i 2 [dv (.ask s o a b), .int ((d + 1 : Nat) : Int)]) rfl) (q0c (i := 0))
  rw [decide_eq_true (show (0 : Int) < ((d + 1 : Nat) : Int) by omega)] at this
  exact this
theorem q3u : ∀ (p : Pl) (k : Nat), ht p < k -> run G T fu k 11 [dv p] = some (.v (.int (lv p)) false)
 | p, 0, h => absurd h (Nat.not_lt_zero _)
 | .fin v, k + 1, _ => by
  rw [q0u (fd := q1a) rfl rfl]
  unfold q1a
  exact q0W (q2o (q0r (cl := .strong) (q1B (q0l (q0b rfl) q0c rfl) q0I q7A)) (q0T rfl))
 | .ask s o a b, k + 1, h => by
  unfold ht at h
  have ea := q3u a k (by omega)
  have eb := q3u b k (by omega)
  rw [q0u (fd := q1a) rfl rfl]
  unfold q1a
  have e := q0W (q1m (r := [.ret (.bin .Add (.call 11 [.ix (.var 0) (.int 3)]) (.call 11 [.ix (.var 0) (.int 4)]))]) (a := [.ret (.int 1)]) (fu := fu) (q0r (cl := .strong) (q1B (G := G) (F := run G T fu k) (δ := q0i 1 [dv (.ask s o a b)]) (q0l (q0b (n := 0) rfl) (q0c (i := 0)) rfl) q0I q9J)) (q0T (q0P (q2g (q0f (q0a (q0l (q0b rfl) q0c rfl) q0e) rfl ea) (q0f (q0a (q0l (q0b rfl) q0c rfl) q0e) rfl eb)))))
  rw [show ((lv (.ask s o a b) : Nat) : Int) = (lv a : Int) + (lv b : Int) from Int.natCast_add (lv a) (lv b)]
  exact e
theorem z5q (p : Pl) (h : Okp p) (h1 : ht p <= 12) (h2 : lv p <= 301) (hk : 15 < k) : run G T fu (k + 1) 5 [dv p] = some (.v (dv p) false) := by
 rw [q0u (fd := q2m) rfl rfl]
 unfold q2m
 have e1 : evE G (run G T fu k) (.bin .Add (.glb "MOST_ASKS") (.int 1)) (q0i 1 [dv p]) = some (.ok (.int 301) .strong) := rfl
 have e2 := b_gt (q0f (G := G) (F := run G T fu k) (δ := q0i 1 [dv p]) (f := 11) (q0a (q0b (n := 0) rfl) q0e) rfl (q3u p k (by omega))) e1
 rw [decide_eq_false (show ¬ (301 : Int) < (lv p : Int) by omega)] at e2
 exact q0W (q1m (q0r (cl := .strong) (q4c (x := true) (q0f (l := [(dv p, .strong), (.int 12, .strong)]) rfl rfl (q4n p 12 k h h1 (by omega))))) (q1m (q0r e2) (q0T ((q0P (cl := .strong) (q0b (d := dv p) rfl)).trans (by cases p <;> rfl)))))
end k14
end
section
namespace k14
open PySem L2
variable {fu k : Nat} {F : Nat -> List DV -> Option Ou} {δ : List Sv}
noncomputable def q4e (p : Pl) (i : Nat) : Nat -> List Int -> Bool
 | _, [] => true
 | j, x :: r => vl p i j == x && q4e p i (j + 1) r
noncomputable def q3G (p : Pl) : Nat -> List (List Int) -> Bool
 | _, [] => true
 | i, r :: rs => q4e p i 0 r && q3G p (i + 1) rs
theorem z4Q (a b : Int) : cmpD .NotEq (.int a) (.int b) = some (!(a == b)) := rfl
noncomputable def stB : List MS := [.iff (.cmp .NotEq (.call 3 [.var 0, .var 2, .var 4]) (.var 5)) [.ret (.bl false)] []]
theorem z5S (p : Pl) (hF : ∀ i j : Nat, F 3 [dv p, .int i, .int j] = some (.v (.int (vl p i j)) false)) (tb w : Sv) (i : Nat) : ∀ (r : List Int) (j : Nat) (c d : Sv), ∃ c' d', q1q (.many [4, 5]) (λ δ' => evSs G F fu stB δ') (enuD j (iD r)) [.val (dv p), tb, .val (.int i), w, c, d]
  = some (if q4e p i j r then .nx [.val (dv p), tb, .val (.int i), w, c', d'] else .rt (.bl false) false)
 | [], j, c, d => ⟨c, d, rfl⟩
 | x :: r, j, c, d => by
  have t := q1B (op := .NotEq) (q0f (G := G) (F := F) (δ := [.val (dv p), tb, .val (.int i), w, .val (.int j), .val (.int x)]) (f := 3) (l := [(dv p, .strong), (.int i, .strong), (.int j, .strong)]) (es := [.var 0, .var 2, .var 4]) rfl rfl (hF i j)) (q0b (n := 5) (d := .int x) rfl) (z4Q _ _)
  cases e : (vl p i j == x) with
  | false =>
   rw [e] at t
   refine ⟨c, d, ?_⟩
   rw [show q4e p i j (x :: r) = false by unfold q4e; rw [e]; rfl]
   exact q3L (δ1 := [.val (dv p), tb, .val (.int i), w, .val (.int j), .val (.int x)]) rfl (q2o (q0r t) (q0T rfl))
  | true =>
   rw [e] at t
   obtain ⟨c', d', ih⟩ := z5S p hF tb w i r (j + 1) (.val (.int j)) (.val (.int x))
   refine ⟨c', d', ?_⟩
   rw [show q4e p i j (x :: r) = q4e p i (j + 1) r by rw [q4e, e]; rfl, ← ih]
   exact q2y (δ1 := [.val (dv p), tb, .val (.int i), w, .val (.int j), .val (.int x)]) rfl (q1m (q0r t) rfl)
theorem z5v {e : ME} {ds : List DV} (h : evE G F e δ = some (.ok (.tup ds) .strong)) : q1b (evE G F (.enu e) δ) = some (.ok (enuD 0 ds) .strong) := by
 have q : evE G F (.enu e) δ = Re.thn (evE G F e δ) (λ x c => q9g x c) := by rw [evE]
 rw [q, h]
 rfl
theorem z1C (p : Pl) (hF : ∀ i j : Nat, F 3 [dv p, .int i, .int j] = some (.v (.int (vl p i j)) false)) (tb : Sv) : ∀ (rs : List (List Int)) (i : Nat) (a b c d : Sv), ∃ a' b' c' d', q1q (.many [2, 3]) (λ δ' => evSs G F fu [.fo (.many [4, 5]) (.enu (.var 3)) stB] δ') (enuD i (rs.map λ r => .tup (iD r))) [.val (dv p), tb, a, b, c, d]
  = some (if q3G p i rs then .nx [.val (dv p), tb, a', b', c', d'] else .rt (.bl false) false)
 | [], i, a, b, c, d => ⟨a, b, c, d, rfl⟩
 | r :: rs, i, a, b, c, d => by
  obtain ⟨c1, d1, e1⟩ := z5S (fu := fu) p hF tb (.val (.tup (iD r))) i r 0 c d
  have hw := z5v (F := F) (δ := [.val (dv p), tb, .val (.int i), .val (.tup (iD r)), c, d]) (e := .var 3) (q0b rfl)
  cases e : q4e p i 0 r with
  | false =>
   rw [e] at e1
   refine ⟨a, b, c, d, ?_⟩
   rw [show q3G p i (r :: rs) = false by unfold q3G; rw [e]; rfl]
   exact q3L (δ1 := [.val (dv p), tb, .val (.int i), .val (.tup (iD r)), c, d]) rfl (q6X hw (.inl rfl) e1)
  | true =>
   rw [e] at e1
   obtain ⟨a', b', c', d', ih⟩ := z1C p hF tb rs (i + 1) (.val (.int i)) (.val (.tup (iD r))) c1 d1
   refine ⟨a', b', c', d', ?_⟩
   rw [show q3G p i (r :: rs) = q3G p (i + 1) rs by rw [q3G, e]; rfl, ← ih]
   exact q2y (δ1 := [.val (dv p), tb, .val (.int i), .val (.tup (iD r)), c, d]) rfl (q6k hw (.inl rfl) e1 rfl)
theorem q5J (p : Pl) (h : ht p < fu) (hl : ht p <= 10000) (rows : List (List Int)) : run G T fu (k + 3) 4 [dv p, tT rows] = some (.v (.bl (q3G p 0 rows)) false) := by
 rw [q0u (fd := q2Y) rfl rfl]
 unfold q2Y
 obtain ⟨a', b', c', d', e⟩ := z1C (fu := fu) (F := run G T fu (k + 2)) p (λ i j => q9r p i j h hl) (.val (tT rows)) rows 0 .no .no .no .no
 have hw := z5v (F := run G T fu (k + 2)) (δ := [.val (dv p), .val (tT rows), .no, .no, .no, .no]) (e := .var 1) (q0b rfl)
 cases q : q3G p 0 rows with
 | true => rw [q] at e; exact q0W (q6k hw (.inl rfl) e (q0T rfl))
 | false => rw [q] at e; exact q0W (q6X hw (.inl rfl) e)
noncomputable def nD (l : List Nat) : List DV := l.map λ (j : Nat) => DV.int (j : Int)
theorem q7t (n : Nat) : upTo 0 n = nD (List.range n) := by
 unfold L2.upTo nD
 apply List.map_congr_left
 intro j _
 rw [Int.zero_add]
noncomputable def cell (rows : List (List Int)) (i j : Nat) : Int := (rows.getD i []).getD j 0
noncomputable def good (p : Pl) (n m : Nat) (rows : List (List Int)) : Bool := (List.range n).all λ i => (List.range m).all λ j => vl p i j == cell rows i j
noncomputable def duB : List MS := [.iff (.cmp .NotEq (.call 22 [.var 0, .var 2, .var 3]) (.ix (.ix (.var 1) (.var 2)) (.var 3))) [.ret (.bl false)] []]
theorem z4G (p : Pl) (hF : ∀ i j : Nat, i < 8 -> j < 8 -> F 22 [dv p, .int i, .int j] = some (.v (.int (vl p i j)) false)) {n m : Nat} {rows : List (List Int)} (R : Rect n m rows) (hn : n <= 8) (hm : m <= 8) (i : Nat) (hi : i < n) : ∀ (l : List Nat) (c : Sv), (∀ j ∈ l, j < m) -> ∃ c', q1q (.one 3) (λ δ' => evSs G F fu duB δ') (nD l) [.val (dv p), .val (rL rows), .val (.int i), c]
  = some (if (l.all λ j => vl p i j == cell rows i j) then .nx [.val (dv p), .val (rL rows), .val (.int i), c'] else .rt (.bl false) false)
 | [], c, _ => ⟨c, rfl⟩
 | j :: l, c, hj => by
  have hj0 := hj j (List.mem_cons_self ..)
  have ir : i < rows.length := by rw [R.1]; exact hi
  have jr : j < (rows.getD i []).length := by rw [R.2 _ (q1J ir)]; exact hj0
  have t := q1B (op := .NotEq) (q0f (G := G) (F := F) (δ := [.val (dv p), .val (rL rows), .val (.int i), .val (.int j)]) (f := 22) (l := [(dv p, .strong), (.int i, .strong), (.int j, .strong)]) (es := [.var 0, .var 2, .var 3]) rfl rfl (hF i j (by omega) (by omega)))
   (q0l (q0l (q0b (n := 1) rfl) (q0b (n := 2) rfl) (q6G ir)) (q0b (n := 3) rfl) (q6s jr)) (z4Q _ _)
  cases e : (vl p i j == cell rows i j) with
  | false =>
   unfold cell at e
   rw [e] at t
   refine ⟨c, ?_⟩
   rw [List.all_cons, show (vl p i j == cell rows i j) = false from e, Bool.false_and]
   exact q3L (δ1 := [.val (dv p), .val (rL rows), .val (.int i), .val (.int j)]) rfl (q2o (q0r t) (q0T rfl))
  | true =>
   unfold cell at e
   rw [e] at t
   obtain ⟨c', ih⟩ := z4G p hF R hn hm i hi l (.val (.int j)) λ y hy => hj y (List.mem_cons_of_mem _ hy)
   refine ⟨c', ?_⟩
   rw [List.all_cons, show (vl p i j == cell rows i j) = true from e, Bool.true_and, ← ih]
   exact q2y (δ1 := [.val (dv p), .val (rL rows), .val (.int i), .val (.int j)]) rfl (q1m (q0r t) rfl)
theorem z1u (p : Pl) (hF : ∀ i j : Nat, i < 8 -> j < 8 -> F 22 [dv p, .int i, .int j] = some (.v (.int (vl p i j)) false)) {n m : Nat} {rows : List (List Int)} (R : Rect n m rows) (hn0 : 0 < n) (hn : n <= 8) (hm : m <= 8) : ∀ (l : List Nat) (b c : Sv), (∀ i ∈ l, i < n) -> ∃ b' c', q1q (.one 2) (λ δ' => evSs G F fu [.fo (.one 3) (.rng [.bi .len [.ix (.var 1) (.int 0)]]) duB] δ') (nD l) [.val (dv p), .val (rL rows), b, c]
  = some (if (l.all λ i => (List.range m).all λ j => vl p i j == cell rows i j) then .nx [.val (dv p), .val (rL rows), b', c'] else .rt (.bl false) false)
 | [], b, c, _ => ⟨b, c, rfl⟩
 | i :: l, b, c, hl => by
  have hi := hl i (List.mem_cons_self ..)
  obtain ⟨c1, e1⟩ := z4G (fu := fu) p hF R hn hm i hi (List.range m) c λ j hj => List.mem_range.mp hj
  have r0 : 0 < rows.length := by rw [R.1]; exact hn0
  have l0 : (iD (rows.getD 0 [])).length = m := by unfold iD; rw [List.length_map, R.2 _ (q1J r0)]
  have hw := q8d (F := F) (δ := [.val (dv p), .val (rL rows), .val (.int i), c]) (n := m) (e := .bi .len [.ix (.var 1) (.int 0)]) (by
   have q := q1W (q0l (G := G) (F := F) (δ := [.val (dv p), .val (rL rows), .val (.int i), c]) (q0b (n := 1) rfl) (q0c (i := 0)) (q6G r0))
   rw [l0] at q
   exact q) (by omega)
  rw [q7t] at hw
  cases e : ((List.range m).all λ j => vl p i j == cell rows i j) with
  | false =>
   rw [e] at e1
   refine ⟨b, c, ?_⟩
   rw [List.all_cons, e, Bool.false_and]
   exact q3L (δ1 := [.val (dv p), .val (rL rows), .val (.int i), c]) rfl (q6X hw (.inr rfl) e1)
  | true =>
   rw [e] at e1
   obtain ⟨b', c', ih⟩ := z1u p hF R hn0 hn hm l (.val (.int i)) c1 λ y hy => hl y (List.mem_cons_of_mem _ hy)
   refine ⟨b', c', ?_⟩
   rw [List.all_cons, e, Bool.true_and, ← ih]
   exact q2y (δ1 := [.val (dv p), .val (rL rows), .val (.int i), c]) rfl (q6k hw (.inr rfl) e1 rfl)
theorem z4H (p : Pl) (h : ht p < fu) {n m : Nat} {rows : List (List Int)} (R : Rect n m rows) (hn0 : 0 < n) (hn : n <= 8) (hm : m <= 8) : run G T fu (k + 2) 23 [dv p, rL rows] = some (.v (.bl (good p n m rows)) false) := by
 rw [q0u (fd := q2D) rfl rfl]
 unfold q2D
 obtain ⟨b', c', e⟩ := z1u (fu := fu) (F := run G T fu (k + 1)) p (λ i j hi hj => q7J p i j hi hj h) R hn0 hn hm (List.range n) .no .no λ i hi => List.mem_range.mp hi
 have hw := q8d (F := run G T fu (k + 1)) (δ := [.val (dv p), .val (rL rows), .no, .no]) (n := n) (e := .bi .len [.var 1]) (by
  have q := q1W (F := run G T fu (k + 1)) (δ := [.val (dv p), .val (rL rows), .no, .no]) (q0b (n := 1) (d := rL rows) rfl)
  rw [List.length_map, R.1] at q
  exact q) (by omega)
 rw [q7t] at hw
 cases q : good p n m rows with
 | true => rw [show ((List.range n).all λ i => (List.range m).all λ j => vl p i j == cell rows i j) = true from q] at e; exact q0W (q6k hw (.inr rfl) e (q0T rfl))
 | false => rw [show ((List.range n).all λ i => (List.range m).all λ j => vl p i j == cell rows i j) = false from q] at e; exact q0W (q6X hw (.inr rfl) e)
theorem q6p (p : Pl) (i : Nat) : ∀ (r : List Int) (a : Nat), q4e p i a r = true ↔ ∀ j < r.length, vl p i (a + j) = r.getD j 0
 | [], a => ⟨λ _ j h => absurd h (Nat.not_lt_zero _), λ _ => rfl⟩
 | x :: r, a => by
  rw [q4e, Bool.and_eq_true, beq_iff_eq, q6p p i r (a + 1)]
  constructor
  ·rintro ⟨h1, h2⟩ j hj
   cases j with
   | zero => exact h1
   | succ j =>
    have := h2 j (by simpa using hj)
    rw [show a + 1 + j = a + (j + 1) by omega] at this
    simpa using this
  ·intro h
   refine ⟨by simpa using h 0 (by simp), λ j hj => ?_⟩
   have := h (j + 1) (by simpa using hj)
   rw [show a + (j + 1) = a + 1 + j by omega] at this
   simpa using this
theorem q5G (p : Pl) : ∀ (rs : List (List Int)) (a : Nat), q3G p a rs = true ↔ ∀ i < rs.length, ∀ j < (rs.getD i []).length, vl p (a + i) j = cell rs i j
 | [], a => ⟨λ _ j h => absurd h (Nat.not_lt_zero _), λ _ => rfl⟩
 | r :: rs, a => by
  rw [q3G, Bool.and_eq_true, q6p, q5G p rs (a + 1)]
  constructor
  ·rintro ⟨h1, h2⟩ i hi j hj
   cases i with
   | zero => have := h1 j (by simpa using hj); rw [Nat.zero_add] at this; exact this
   | succ i =>
    have := h2 i (by simpa using hi) j (by simpa using hj)
    rw [show a + 1 + i = a + (i + 1) by omega] at this
    exact this
  ·intro h
   refine ⟨λ j hj => ?_, λ i hi j hj => ?_⟩
   ·have := h 0 (by simp) j (by simpa using hj); rw [Nat.zero_add]; exact this
   ·have := h (i + 1) (by simpa using hi) j (by simpa using hj)
    rw [show a + (i + 1) = a + 1 + i by omega] at this
    exact this
theorem q3O (p : Pl) (n m : Nat) (rows : List (List Int)) : good p n m rows = true ↔ ∀ i < n, ∀ j < m, vl p i j = cell rows i j := by
 unfold good
 simp only [List.all_eq_true, List.mem_range, beq_iff_eq]
theorem q6q (p : Pl) {n m : Nat} {rows : List (List Int)} (R : Rect n m rows) : q3G p 0 rows = good p n m rows := by
 rw [Bool.eq_iff_iff, q5G, q3O]
 constructor
 ·intro h i hi j hj
  have ir : i < rows.length := by rw [R.1]; exact hi
  have := h i ir j (by rw [R.2 _ (q1J ir)]; exact hj)
  rw [Nat.zero_add] at this
  exact this
 ·intro h i hi j hj
  rw [Nat.zero_add]
  rw [R.2 _ (q1J hi)] at hj
  exact h i (by rw [← R.1]; exact hi) j hj
theorem q5A {n m : Nat} {rows : List (List Int)} (R : Rect n m rows) {i j : Nat} (hi : i < n) (hj : j < m) : cell (flip m rows) j i = cell rows i j := by
 unfold cell flip col
 have hir : i < rows.length := by rw [R.1]; exact hi
 simp only [List.getD_eq_getElem?_getD, List.getElem?_map, List.getElem?_range hj, List.getElem?_eq_getElem hir, Option.map_some, Option.getD_some]
theorem q8F (p : Pl) {n m : Nat} {rows : List (List Int)} (R : Rect n m rows) : good (flp p) m n (flip m rows) = good p n m rows := by
 rw [Bool.eq_iff_iff, q3O, q3O]
 constructor
 ·intro h i hi j hj
  have := h j hj i hi
  rw [z1K, q5A R hi hj] at this
  exact this
 ·intro h j hj i hi
  rw [z1K, q5A R hi hj]
  exact h i hi j hj
theorem z1E (b : Bool) : cmpD .Eq (.bl b) (.bl b) = some true := by cases b <;> rfl
theorem z1Q (p : Pl) (h : Okp p) (h1 : ht p <= 12) (h2 : lv p <= 301) (hfu : 12 < fu) {n m : Nat} {rows : List (List Int)} (R : Rect n m rows) (hn0 : 0 < n) (hn : n <= 8) (hm : m <= 8) (hk : 20 < k) : run G T fu (k + 1) 24 [dv p, rL rows, tT rows] = some (.v (.bl true) false) := by
 obtain ⟨k, rfl⟩ : ∃ k', k = k' + 3 := ⟨k - 3, by omega⟩
 rw [q0u (fd := q1Y) rfl rfl]
 unfold q1Y
 have e1 := z4H (fu := fu) (k := k + 1) p (by omega) R hn0 hn hm
 have e2 := q5J (fu := fu) (k := k) p (by omega) (by omega) rows
 rw [q6q p R] at e2
 have e3 := q5J (fu := fu) (k := k) (flp p) (by rw [q5b]; omega) (by rw [q5b]; omega) (flip m rows)
 rw [q6q (flp p) (q8l R), q8F p R] at e3
 have e4 := z5q (fu := fu) (k := k + 2) p h h1 h2 (by omega)
 have e5 := q8V (fu := fu) p (k + 3) (by omega)
 have e6 := q9n (fu := fu) (k := k + 2) rows n m R hn0 (by omega) (by omega)
 exact q0W (q0F (q0y (q0f (l := [(dv p, .strong), (rL rows, .strong)]) rfl rfl e1) rfl) (q0F (q0y (q0f (l := [(dv p, .strong), (tT rows, .strong)]) (q0a (q0f (l := [(dv p, .strong)]) rfl rfl e4) (q0a (q0b rfl) q0e)) rfl e2) rfl) (q0F (q0y (q0f (l := [(dv (flp p), .strong), (tT (flip m rows), .strong)]) (q0a (q0f (l := [(dv p, .strong)]) rfl rfl e5) (q0a (q0f (l := [(tT rows, .strong)]) rfl rfl e6) q0e)) rfl e3) rfl)
  (q0T (q0P (cl := .strong) (q5m (cx := .strong) rfl (q5m (q1B (q0b rfl) (q0b rfl) (z1E _)) (q8q (q1B (q0b rfl) (q0b rfl) (z1E _))))))))))
end k14
end
section
namespace k14
open PySem L2
variable {fu k : Nat} {F : Nat -> List DV -> Option Ou} {δ : List Sv}
noncomputable def setN (s : Nat) (cs : List Nat) : Nat := cs.foldl (λ s c => s + 2 ^ c) s
noncomputable def setF (q : Nat -> Bool) : Nat -> Nat
 | 0 => 0
 | n + 1 => setF q n + if q n then 2 ^ n else 0
theorem q2W (q : Nat -> Bool) : ∀ n, setN 0 ((List.range n).filter q) = setF q n
 | 0 => rfl
 | n + 1 => by
  have ih := q2W q n
  unfold setN at ih ⊢
  rw [List.range_succ, List.filter_append, List.foldl_append, ih, setF]
  cases h : q n <;> simp [List.filter, h]
theorem q6D (q : Nat -> Bool) : ∀ n, setF q n < 2 ^ n
 | 0 => Nat.one_pos
 | n + 1 => by
  have := q6D q n
  rw [setF, Nat.pow_succ]
  split <;> omega
theorem q3J (q : Nat -> Bool) (i : Nat) : ∀ n, (setF q n).testBit i = (decide (i < n) && q i)
 | 0 => by simp [setF]
 | n + 1 => by
  have ih := q3J q i n
  have hl := q6D q n
  rw [setF]
  cases h : q n with
  | false =>
   rw [if_neg (by simp), Nat.add_zero, ih]
   by_cases e : i = n
   ·subst e; simp [h]
   ·have : decide (i < n + 1) = decide (i < n) := by rw [decide_eq_decide]; omega
    rw [this]
  | true =>
   rw [if_pos rfl, Nat.add_comm]
   rcases Nat.lt_trichotomy i n with e | e | e
   ·rw [Nat.testBit_two_pow_add_gt e, ih, decide_eq_true e, decide_eq_true (show i < n + 1 by omega)]
   ·subst e
    rw [Nat.testBit_two_pow_add_eq, Nat.testBit_lt_two_pow hl, decide_eq_true (show i < i + 1 by omega), h]
    rfl
   ·rw [decide_eq_false (show ¬ i < n + 1 by omega), Bool.false_and]
    refine Nat.testBit_lt_two_pow (Nat.lt_of_lt_of_le (m := 2 ^ (n + 1)) ?_ (Nat.pow_le_pow_right (by decide) e))
    rw [Nat.pow_succ]; omega
theorem q7h {q : Nat -> Bool} {n i : Nat} (hi : i < n) (h : q i = true) : 1 <= setF q n := by
 have b := q3J q i n
 rw [decide_eq_true hi, h] at b
 rcases Nat.eq_zero_or_pos (setF q n) with e | e
 ·rw [e] at b; simp at b
 ·exact e
theorem q8u {q : Nat -> Bool} {n : Nat} (h : n <= 8) : setF q n <= 255 := by
 have := q6D q n
 have h2 : 2 ^ n <= 2 ^ 8 := Nat.pow_le_pow_right (by decide) h
 omega
theorem z1A (x : Sv) : ∀ (cs : List Nat) (s : Nat) (c : Sv), (∀ c ∈ cs, c < 8) -> ∃ c', q1q (.one 2) (λ δ' => evSs G F fu [.set 1 false (.bin .Add (.var 1) (.ix (.lst [.int 1, .int 2, .int 4, .int 8, .int 16, .int 32, .int 64, .int 128]) (.var 2)))] δ') (nD cs) [x, .val (.int s), c] = some (.nx [x, .val (.int (setN s cs : Nat)), c'])
 | [], s, c, _ => ⟨c, rfl⟩
 | y :: cs, s, c, h => by
  obtain ⟨c', ih⟩ := z1A x cs (s + 2 ^ y) (.val (.int y)) λ z hz => h z (List.mem_cons_of_mem _ hz)
  refine ⟨c', ?_⟩
  rw [show setN s (y :: cs) = setN (s + 2 ^ y) cs from rfl, ← ih]
  refine q2y (δ1 := [x, .val (.int s), .val (.int y)]) rfl (q0F (q0y (d := .int ((s + 2 ^ y : Nat) : Int)) (cl := .strong) ?_ rfl) rfl)
  rw [Int.natCast_add]
  exact q2g (q0b rfl) (q0l (x := .lst [.int 1, .int 2, .int 4, .int 8, .int 16, .int 32, .int 64, .int 128]) (cx := .fresh) rfl (q0b rfl) (pow8 (h y (List.mem_cons_self ..))))
theorem z4y (cs : List Nat) (h : ∀ c ∈ cs, c < 8) : run G T fu (k + 1) 18 [.lst (nD cs)] = some (.v (.int (setN 0 cs : Nat)) false) := by
 obtain ⟨c', e⟩ := z1A (F := run G T fu k) (fu := fu) (.val (.lst (nD cs))) cs 0 .no h
 rw [q0u (fd := q2G) rfl rfl]
 unfold q2G
 exact q0W (q0F (q0y (d := .int 0) (cl := .strong) rfl rfl) (q6k (ds := nD cs) (cl := .strong) rfl (.inl rfl) e (q0T rfl)))
theorem q8m {x y : Int} : ∀ {l : List Int}, y ∈ insI x l ↔ y = x \/ y ∈ l
 | [] => by simp [insI]
 | z :: l => by
  unfold insI
  split
  ·simp
  ·rw [List.mem_cons, q8m, List.mem_cons]; constructor <;> (rintro (h | h | h) <;> simp [h])
theorem q9B {x : Int} : ∀ {l : List Int}, (insI x l).length = l.length + 1
 | [] => rfl
 | z :: l => by unfold insI; split <;> simp [q9B]
theorem q7i {y : Int} : ∀ {l : List Int}, y ∈ q3m l ↔ y ∈ l
 | [] => Iff.rfl
 | z :: l => by unfold q3m; rw [q8m, q7i, List.mem_cons]
theorem q6R : ∀ {l : List Int}, (q3m l).length = l.length
 | [] => rfl
 | z :: l => by unfold q3m; rw [q9B, q6R, List.length_cons]
theorem z1D {y : Int} : ∀ {l σ : List Int}, y ∈ l.foldl dk σ ↔ y ∈ σ \/ y ∈ l
 | [], σ => by simp
 | z :: l, σ => by
  rw [List.foldl_cons, z1D, List.mem_cons]
  unfold dk
  split
  ·rename_i h
   constructor
   ·rintro (q | q)
    ·exact .inl q
    ·exact .inr (.inr q)
   ·rintro (q | q | q)
    ·exact .inl q
    ·rw [q]; exact .inl h
    ·exact .inr q
  ·rw [List.mem_append, List.mem_singleton, or_assoc]
theorem q5B : ∀ {l σ : List Int}, (l.foldl dk σ).length <= σ.length + l.length
 | [], σ => by simp
 | z :: l, σ => by
  rw [List.foldl_cons, List.length_cons]
  have := q5B (l := l) (σ := dk σ z)
  have h2 : (dk σ z).length <= σ.length + 1 := by unfold dk; split <;> simp
  omega
theorem q8N : ∀ r : List Int, ints? (iD r) = some r
 | [] => rfl
 | x :: r => by show (ints? (iD r)).map (x :: ·) = _; rw [q8N r]; rfl
theorem z3h {e : ME} {r : List Int} {c : Cl} (h : evE G F e δ = some (.ok (.lst (iD r)) c)) (hl : r.length <= 60) : evE G F (.bi .sset [e]) δ = some (.ok (.lst (iD (q3m (r.foldl dk [])))) .fresh) := by
 show Rs.thn (evEs G F [e] δ) (λ l => z0G l) = _
 rw [q0a h q0e]
 show (match ints? (iD r) with
  | some ns => if ns.length < 4000 /\ (ns.foldl dk []).length < 64 then some (Re.ok (.lst ((q3m (ns.foldl dk [])).map DV.int)) .fresh) else none
  | none => none) = _
 rw [q8N]
 have := q5B (l := r) (σ := [])
 rw [List.length_nil] at this
 exact if_pos ⟨by omega, by omega⟩
noncomputable def colS (r : List Int) (w : Int) : Nat := setF (λ c => r.getD c 0 == w) r.length
noncomputable def wp (r : List Int) : Pl -> List Int -> Pl
 | p, [] => p
 | p, w :: ws => wp r (.ask false (colS r w) p (.fin w)) ws
theorem z4e {r : List Int} (hr : r.length <= 8) (h9 : ∀ x ∈ r, 0 <= x /\ x <= 9) : ∀ (ws : List Int) (p : Pl), Okp p -> (∀ w ∈ ws, w ∈ r) -> Okp (wp r p ws) /\ ht (wp r p ws) <= ht p + ws.length /\ lv (wp r p ws) = lv p + ws.length /\ ∀ i j, j < r.length -> vl (wp r p ws) i j = if r.getD j 0 ∈ ws then r.getD j 0 else vl p i j
 | [], p, h, _ => ⟨h, Nat.le_refl _, rfl, λ i j _ => by simp [wp]⟩
 | w :: ws, p, h, hw => by
  have w0 := hw w (List.mem_cons_self ..)
  have o1 : 1 <= colS r w := by
   obtain ⟨c, hc, e⟩ := List.mem_iff_getElem.mp w0
   exact q7h hc (by rw [beq_iff_eq, List.getD_eq_getElem?_getD, List.getElem?_eq_getElem hc, Option.getD_some, e])
  obtain ⟨a1, a2, a3, a4⟩ := z4e hr h9 ws (.ask false (colS r w) p (.fin w)) ⟨o1, q8u hr, h, h9 w w0⟩ λ y hy => hw y (List.mem_cons_of_mem _ hy)
  refine ⟨a1, ?_, ?_, λ i j hj => ?_⟩
  ·refine Nat.le_trans a2 ?_
   rw [List.length_cons]
   show max (ht p) 0 + 1 + ws.length <= _
   omega
  ·rw [show wp r p (w :: ws) = wp r (.ask false (colS r w) p (.fin w)) ws from rfl, a3, List.length_cons]
   show lv p + 1 + ws.length = _
   omega
  ·rw [show wp r p (w :: ws) = wp r (.ask false (colS r w) p (.fin w)) ws from rfl, a4 i j hj]
   have b := q3J (λ c => r.getD c 0 == w) j r.length
   rw [decide_eq_true hj, Bool.true_and] at b
   have e : vl (.ask false (colS r w) p (.fin w)) i j = if r.getD j 0 == w then w else vl p i j := by
    show (if (colS r w).testBit j then w else vl p i j) = _
    rw [show (colS r w).testBit j = (r.getD j 0 == w) from b]
   rw [e]
   by_cases q : r.getD j 0 ∈ ws
   ·rw [if_pos q, if_pos (List.mem_cons_of_mem _ q)]
   ·rw [if_neg q]
    by_cases q2 : r.getD j 0 = w
    ·rw [if_pos (beq_iff_eq.mpr q2), if_pos (by rw [q2]; exact List.mem_cons_self ..), q2]
    ·rw [if_neg (by rw [beq_iff_eq]; exact q2), if_neg (by rw [List.mem_cons]; rintro (z | z); exact q2 z; exact q z)]
noncomputable def woB : List MS := [.set 4 false (.compi (.var 0) (.one 0) (.rng [.bi .len [.var 0]]) (.cmp .Eq (.ix (.var 1) (.var 0)) (.var 2)) [none, some 0, some 3]), .set 2 false (.tup [.str "ask", .str "column", .call 18 [.var 4], .var 2, .tup [.str "end", .var 3]])]
theorem z3Y (r : List Int) (hr : r.length <= 8) (x : Sv) : ∀ (ws : List Int) (p : Pl) (c d : Sv), ∃ c' d', q1q (.one 3) (λ δ' => evSs G (run G T fu (k + 1)) fu woB δ') (iD ws) [.val (.lst (iD r)), x, .val (dv p), c, d] = some (.nx [.val (.lst (iD r)), x, .val (dv (wp r p ws)), c', d'])
 | [], p, c, d => ⟨c, d, rfl⟩
 | w :: ws, p, c, d => by
  obtain ⟨cs, hcs⟩ : ∃ cs : List Nat, (List.range r.length).filter (λ c => r.getD c 0 == w) = cs := ⟨_, rfl⟩
  obtain ⟨c', d', ih⟩ := z3Y r hr x ws (.ask false (colS r w) p (.fin w)) (.val (.int w)) (.val (.lst (nD cs)))
  refine ⟨c', d', ?_⟩
  rw [show wp r p (w :: ws) = wp r (.ask false (colS r w) p (.fin w)) ws from rfl, ← ih]
  have hl : (iD r).length = r.length := by unfold iD; rw [List.length_map]
  have e1 := z1h (G := G) (F := run G T fu (k + 1)) (δ := [.val (.lst (iD r)), x, .val (dv p), .val (.int w), d]) (elt := .var 0) (tg := .one 0) (it := .rng [.bi .len [.var 0]]) (cd := .cmp .Eq (.ix (.var 1) (.var 0)) (.var 2)) (fr := [none, some 0, some 3]) (ds := upTo 0 r.length) (cl := .fresh) (p := λ d => match d with | .int j => r.getD j.toNat 0 == w | _ => false)
   (q8d (by have q := q1W (F := run G T fu (k + 1)) (δ := [.val (.lst (iD r)), x, .val (dv p), .val (.int w), d]) (q0b (n := 0) (d := .lst (iD r)) rfl); rw [hl] at q; exact q) (by omega)) (by decide) (by unfold L2.upTo; rw [List.length_map, List.length_range]; exact Nat.le_trans hr (by decide))
   (λ d' hd' => by
    obtain ⟨j, hj, rfl⟩ := q5w hd'
    rw [show (0 : Int) + (j : Int) = j by omega]
    refine ⟨[.val (.int j), .val (.lst (iD r)), .val (.int w)], rfl, ?_, ?_⟩
    ·show tstD (evE G _ _ _) = some (.ok (r.getD (j : Int).toNat 0 == w))
     rw [Int.toNat_natCast]
     exact q0r (b_eq (q0l (q0b rfl) (q0b rfl) (q6s hj)) (q0b rfl))
    ·exact q0b rfl)
  have e2 : (upTo 0 r.length).filter (λ d => match d with | .int j => r.getD j.toNat 0 == w | _ => false) = nD cs := by
   rw [q7t, ← hcs]
   unfold nD
   rw [List.filter_map]
   rfl
  rw [e2] at e1
  have e3 := z4y (fu := fu) (k := k) cs λ c hc => by
   rw [← hcs] at hc
   have := List.mem_range.mp (List.mem_filter.mp hc).1
   omega
  rw [← hcs, q2W, hcs] at e3
  refine q2y (δ1 := [.val (.lst (iD r)), x, .val (dv p), .val (.int w), d]) rfl (q0F (q0y e1 rfl) (q0F (q0y (d := dv (.ask false (colS r w) p (.fin w))) (cl := .strong) ?_ rfl) rfl))
  exact q1S (l := [(.str "ask", .strong), (.str "column", .strong), (.int (colS r w : Nat), .strong), (dv p, .strong), (.tup [.str "end", .int w], .strong)]) (q0a q0I (q0a q0I (q0a (q0f (l := [(.lst (nD cs), .strong)]) rfl rfl e3) (q0a (q0b rfl) (q0a (q1S (l := [(.str "end", .strong), (.int w, .strong)]) (q0a q0I (q0a (q0b rfl) q0e)) (show 2 <= mostLen by decide) rfl) q0e))))) (show 5 <= mostLen by decide) rfl
theorem q8s {a lo : ME} {ds : List DV} {c c1 : Cl} {l : Nat} (ha : evE G F a δ = some (.ok (.lst ds) c)) (hl : evE G F lo δ = some (.ok (.int l) c1)) (h : l <= ds.length) : evE G F (.slf a lo) δ = some (.ok (.lst (ds.drop l)) (Cl.anew c c)) := by
 unfold evE
 rw [ha, q0J, hl]
 show some (Re.ok (.lst (cutD ds (some (l : Int)) none)) (Cl.anew c c)) = _
 have : cutD ds (some (l : Int)) none = ds.drop l := by
  unfold cutD slIx
  simp only []
  rw [if_neg (by omega), Int.toNat_natCast, Nat.min_eq_left h]
  exact List.take_of_length_le (by rw [List.length_drop]; exact Nat.le_refl _)
 rw [this]
theorem z5o {a hi : ME} {ds : List DV} {c c1 : Cl} {l : Nat} (ha : evE G F a δ = some (.ok (.lst ds) c)) (hl : evE G F hi δ = some (.ok (.int l) c1)) (h : l <= ds.length) : evE G F (.slt a hi) δ = some (.ok (.lst (ds.take l)) (Cl.anew c c)) := by
 unfold evE
 rw [ha, q0J, hl]
 show some (Re.ok (.lst (cutD ds none (some (l : Int)))) (Cl.anew c c)) = _
 have : cutD ds none (some (l : Int)) = ds.take l := by
  unfold cutD slIx
  simp only []
  rw [if_neg (by omega), Int.toNat_natCast, Nat.min_eq_left h, List.drop_zero, Nat.sub_zero]
 rw [this]
theorem z2z (r : List Int) (h0 : 0 < r.length) (hr : r.length <= 8) (h9 : ∀ x ∈ r, 0 <= x /\ x <= 9) : ∃ p : Pl, Okp p /\ ht p <= 7 /\ lv p <= 8 /\ (∀ i j, j < r.length -> vl p i j = r.getD j 0) /\ ∀ k, run G T fu (k + 2) 19 [.lst (iD r)] = some (.v (dv p) false) := by
 obtain ⟨ws, hws⟩ : ∃ ws, q3m (r.foldl dk []) = ws := ⟨_, rfl⟩
 have hm : ∀ y, y ∈ ws ↔ y ∈ r := λ y => by rw [← hws, q7i, z1D]; simp
 have hlen : ws.length <= r.length := by
  have := q5B (l := r) (σ := [])
  rw [← hws, q6R]; simpa using this
 cases ws with
 | nil =>
  cases r with
  | nil => cases h0
  | cons x r => have := (hm x).mpr (List.mem_cons_self ..); cases this
 | cons w0 rest =>
  have w0r := (hm w0).mp (List.mem_cons_self ..)
  obtain ⟨a1, a2, a3, a4⟩ := z4e hr h9 rest (.fin w0) (h9 w0 w0r) λ y hy => (hm y).mp (List.mem_cons_of_mem _ hy)
  rw [List.length_cons] at hlen
  refine ⟨wp r (.fin w0) rest, a1, ?_, ?_, λ i j hj => ?_, λ k => ?_⟩
  ·have : ht (.fin w0) = 0 := rfl
   omega
  ·have : lv (.fin w0) = 1 := rfl
   omega
  ·rw [a4 i j hj]
   split
   ·rfl
   ·rename_i q
    have : r.getD j 0 ∈ w0 :: rest := (hm _).mpr (by rw [List.getD_eq_getElem?_getD, List.getElem?_eq_getElem hj, Option.getD_some]; exact List.getElem_mem hj)
    rcases List.mem_cons.mp this with z | z
    ·exact z.symm
    ·exact absurd z q
  ·rw [q0u (fd := q1K) rfl rfl]
   unfold q1K
   have e0 := z3h (F := run G T fu (k + 1)) (δ := [.val (.lst (iD r)), .no, .no, .no, .no]) (e := .var 0) (r := r) (c := .strong) rfl (by omega)
   rw [hws] at e0
   obtain ⟨c', d', lp⟩ := z3Y (fu := fu) (k := k) r hr (.val (.lst (iD (w0 :: rest)))) rest (.fin w0) .no .no
   have hw : q1b (evE G (run G T fu (k + 1)) (.slf (.var 1) (.int 1)) [.val (.lst (iD r)), .val (.lst (iD (w0 :: rest))), .val (dv (.fin w0)), .no, .no]) = some (.ok (iD rest) .fresh) := by
    rw [q8s (l := 1) (q0b (n := 1) (d := .lst (iD (w0 :: rest))) rfl) rfl (by show 1 <= (iD rest).length + 1; omega)]
    rfl
   have z0 : ixD (.lst (iD (w0 :: rest))) (.int 0) = some (.int w0) := q6s (r := w0 :: rest) (j := 0) (by simp)
   exact q0W (q0F (q0y e0 rfl) (q0F (q0y (d := dv (.fin w0)) (cl := .strong) (q1S (l := [(.str "end", .strong), (.int w0, .strong)]) (q0a q0I (q0a (q0l (q0b rfl) q0c z0) q0e)) (show 2 <= mostLen by decide) rfl) rfl) (q6k hw (.inr rfl) lp (q0T ((q0P (cl := .strong) (q0b (d := dv (wp r (.fin w0) rest)) rfl)).trans (by cases wp r (.fin w0) rest <;> rfl))))))
end k14
end
section
namespace k14
open PySem L2
variable {fu k : Nat} {F : Nat -> List DV -> Option Ou} {δ : List Sv}
theorem z4v (l : List Nat) : (nD l).length = l.length := by unfold nD; rw [List.length_map]
theorem z5J (a : Nat) {h l : Nat} (hl : h <= l) : (List.range' a l).take h = List.range' a h := by
 have e : List.range' a l = List.range' a h ++ List.range' (a + h) (l - h) := by
  rw [show List.range' a h ++ List.range' (a + h) (l - h) = List.range' a (h + (l - h)) by simpa using (List.range'_append (s := a) (m := h) (n := l - h) (step := 1)), show h + (l - h) = l by omega]
 rw [e, List.take_left' (by simp)]
theorem z4S (a h l : Nat) : (List.range' a l).drop h = List.range' (a + h) (l - h) := by
 rw [List.drop_range', Nat.mul_one]
theorem q8W (a : Nat) : ∀ l, List.range' a l = (List.range (a + l)).filter λ c => decide (a <= c)
 | 0 => by
  rw [Nat.add_zero]
  symm
  show _ = []
  rw [List.filter_eq_nil_iff]
  intro c hc
  have := List.mem_range.mp hc
  simp; omega
 | l + 1 => by
  rw [← Nat.add_assoc, List.range_succ, List.filter_append, ← q8W a l, List.range'_concat, Nat.one_mul]
  simp [List.filter]
theorem z6P (a l : Nat) : setN 0 (List.range' a l) = setF (λ c => decide (a <= c)) (a + l) := by rw [q8W, q2W]
theorem q7Q {n m : Nat} {rows : List (List Int)} (R : Rect n m rows) (hn : n <= 8) (hm0 : 0 < m) (hm : m <= 8) (h9 : ∀ r ∈ rows, ∀ x ∈ r, 0 <= x /\ x <= 9) : ∀ (d l a : Nat), 1 <= l -> l <= 2 ^ d -> a + l <= n ->
  ∃ p : Pl, Okp p /\ ht p <= d + 7 /\ lv p <= 8 * l /\ (∀ i, a <= i -> i < a + l -> ∀ j, j < m -> vl p i j = cell rows i j) /\ ∀ k, d + 3 < k -> run G T fu k 20 [rL rows, .lst (nD (List.range' a l))] = some (.v (dv p) false) := by
 have one : ∀ (d a : Nat), a < n -> ∃ p : Pl, Okp p /\ ht p <= d + 7 /\ lv p <= 8 * 1 /\ (∀ i, a <= i -> i < a + 1 -> ∀ j, j < m -> vl p i j = cell rows i j) /\ ∀ k, d + 3 < k -> run G T fu k 20 [rL rows, .lst (nD (List.range' a 1))] = some (.v (dv p) false) := λ d a ha => by
  have ar : a < rows.length := by rw [R.1]; exact ha
  have hr := R.2 _ (q1J ar)
  obtain ⟨p, p1, p2, p3, p4, p5⟩ := z2z (fu := fu) (rows.getD a []) (by omega) (by omega) (h9 _ (q1J ar))
  refine ⟨p, p1, by omega, p3, λ i h1 h2 j hj => ?_, λ k hk => ?_⟩
  ·have : i = a := by omega
   subst this
   exact p4 i j (by omega)
  ·obtain ⟨k, rfl⟩ : ∃ k', k = k' + 3 := ⟨k - 3, by omega⟩
   rw [q0u (fd := q0K) rfl rfl]
   unfold q0K
   have t : evE G (run G T fu (k + 2)) (.bi .len [.var 1]) [.val (rL rows), .val (.lst (nD (List.range' a 1))), .no, .no] = some (.ok (.int 1) .strong) := q1W (ds := [DV.int a]) (c := .strong) rfl
   exact q0W (q2o (q0r (cl := .strong) (b_eq (i := 1) (j := 1) t q0c)) (q0T ((q0P (cl := .strong) (q0f (l := [(.lst (iD (rows.getD a [])), .strong)]) (q0a (q0l (q0b rfl) (q0l (q0b rfl) q0c rfl) (q6G ar)) q0e) rfl (p5 k))).trans (by cases p <;> rfl))))
 intro d
 induction d with
 | zero =>
  intro l a h1 h2 h3
  have : l = 1 := by have : 2 ^ 0 = 1 := rfl; omega
  subst this
  exact one 0 a (by omega)
 | succ d ih =>
  intro l a h1 h2 h3
  by_cases q : l = 1
  ·subst q
   exact one (d + 1) a (by omega)
  rw [Nat.pow_succ] at h2
  obtain ⟨h, hh⟩ : ∃ h, l / 2 = h := ⟨_, rfl⟩
  have hl1 : 1 <= h := by omega
  have hl2 : h < l := by omega
  obtain ⟨y, y1, y2, y3, y4, y5⟩ := ih (l - h) (a + h) (by omega) (by omega) (by omega)
  obtain ⟨z, z1, z2, z3, z4, z5⟩ := ih h a hl1 (by omega) (by omega)
  obtain ⟨S, hS⟩ : ∃ S, setN 0 (List.range' (a + h) (l - h)) = S := ⟨_, rfl⟩
  have hS' := hS
  rw [z6P, show a + h + (l - h) = a + l by omega] at hS'
  refine ⟨.ask true S z y, ⟨?_, ?_, z1, y1⟩, ?_, ?_, λ i i1 i2 j hj => ?_, λ k hk => ?_⟩
  ·rw [← hS']; exact q7h (i := a + h) (by omega) (by simp)
  ·rw [← hS']; exact q8u (by omega)
  ·unfold ht; omega
  ·unfold lv; omega
  ·have b := q3J (λ c => decide (a + h <= c)) i (a + l)
   rw [hS', decide_eq_true i2, Bool.true_and] at b
   show (if S.testBit i then vl y i j else vl z i j) = _
   rw [b]
   by_cases c : a + h <= i
   ·rw [decide_eq_true c]; exact y4 i c (by omega) j hj
   ·rw [decide_eq_false c]; exact z4 i i1 (by omega) j hj
  ·obtain ⟨k, rfl⟩ : ∃ k', k = k' + 1 := ⟨k - 1, by omega⟩
   obtain ⟨k', rfl⟩ : ∃ k', k = k' + 1 := ⟨k - 1, by omega⟩
   have e1 := y5 (k' + 1) (by omega)
   have e2 := z5 (k' + 1) (by omega)
   have e3 := z4y (fu := fu) (k := k') (List.range' (a + h) (l - h)) λ c hc => by
    rw [List.mem_range'_1] at hc; omega
   rw [hS] at e3
   rw [q0u (fd := q0K) rfl rfl]
   unfold q0K
   have ll : (nD (List.range' a l)).length = l := by rw [z4v, List.length_range']
   have t : evE G (run G T fu (k' + 1)) (.cmp .Eq (.bi .len [.var 1]) (.int 1)) [.val (rL rows), .val (.lst (nD (List.range' a l))), .no, .no] = some (.ok (.bl false) .strong) := by
    have t := b_eq (q1W (F := run G T fu (k' + 1)) (δ := [.val (rL rows), .val (.lst (nD (List.range' a l))), .no, .no]) (q0b (n := 1) (d := .lst (nD (List.range' a l))) rfl)) (q0c (i := 1))
    rw [ll, show ((l : Int) == 1) = false by rw [beq_eq_false_iff_ne]; omega] at t
    exact t
   have th : evE G (run G T fu (k' + 1)) (.bin .FloorDiv (.bi .len [.var 1]) (.int 2)) [.val (rL rows), .val (.lst (nD (List.range' a l))), .no, .no] = some (.ok (.int h) .strong) := by
    have t := q6r (q1W (F := run G T fu (k' + 1)) (δ := [.val (rL rows), .val (.lst (nD (List.range' a l))), .no, .no]) (q0b (n := 1) (d := .lst (nD (List.range' a l))) rfl)) (q0c (i := 2)) (by decide)
    rw [ll, show (l : Int) / 2 = (h : Int) by omega] at t
    exact t
   have sf : ∀ δ : List Sv, δ[1]? = some (.val (.lst (nD (List.range' a l)))) -> δ[2]? = some (.val (.int h)) -> evE G (run G T fu (k' + 1)) (.slf (.var 1) (.var 2)) δ = some (.ok (.lst (nD (List.range' (a + h) (l - h)))) .fresh) := λ δ d1 d2 => by
    rw [q8s (q0b d1) (q0b d2) (by omega)]
    unfold nD
    rw [← List.map_drop, z4S]
    rfl
   have st : ∀ δ : List Sv, δ[1]? = some (.val (.lst (nD (List.range' a l)))) -> δ[2]? = some (.val (.int h)) -> evE G (run G T fu (k' + 1)) (.slt (.var 1) (.var 2)) δ = some (.ok (.lst (nD (List.range' a h))) .fresh) := λ δ d1 d2 => by
    rw [z5o (q0b d1) (q0b d2) (by omega)]
    unfold nD
    rw [← List.map_take, z5J a (by omega)]
    rfl
   refine q0W (q1m (q0r t) (q0F (q0y th rfl) (q0F (q0y (d := dv y) (cl := .strong) (q0f (l := [(rL rows, .strong), (.lst (nD (List.range' (a + h) (l - h))), .fresh)]) (q0a (q0b rfl) (q0a (sf _ rfl rfl) q0e)) rfl e1) rfl) (q0T (q0P (cl := .strong) ?_)))))
   exact q1S (l := [(.str "ask", .strong), (.str "row", .strong), (.int S, .strong), (dv z, .strong), (dv y, .strong)]) (q0a q0I (q0a q0I (q0a (q0f (l := [(.lst (nD (List.range' (a + h) (l - h))), .fresh)]) (q0a (sf _ rfl rfl) q0e) rfl e3) (q0a (q0f (l := [(rL rows, .strong), (.lst (nD (List.range' a h)), .fresh)]) (q0a (q0b rfl) (q0a (st _ rfl rfl) q0e)) rfl e2) (q0a (q0b rfl) q0e))))) (show 5 <= mostLen by decide) rfl
theorem q4j (xs : List Int) (hx : xs.length = 59) : ∀ (p : Pl) (at' : Int) (k : Nat), Okp p -> ht p < k -> ∃ q : Pl, Okp q /\ ht q <= ht p /\ lv q <= lv p /\ run G T fu k 21 [dv p, .lst (iD xs), .int at'] = some (.v (dv q) false)
 | p, _, 0, _, h => absurd h (Nat.not_lt_zero _)
 | .fin v, at', k + 1, h, _ => by
  obtain ⟨n, hn⟩ := q2Z (l := xs) (i := at' % 59) (by omega) (by rw [hx]; omega)
  refine ⟨.fin ((v + 1 + n % 9) % 10), ⟨by omega, by omega⟩, Nat.le_refl _, Nat.le_refl _, ?_⟩
  rw [q0u (fd := q0q) rfl rfl]
  unfold q0q
  have hlen : evE G (run G T fu k) (.bi .len [.var 1]) (q0i 3 [dv (.fin v), .lst (iD xs), .int at']) = some (.ok (.int 59) .strong) := by
   have t := q1W (F := run G T fu k) (δ := q0i 3 [dv (.fin v), .lst (iD xs), .int at']) (e := .var 1) (ds := iD xs) (c := .strong) rfl
   rw [show (iD xs).length = 59 by unfold iD; rw [List.length_map, hx]] at t
   exact t
  exact q0W (q2o (q0r (cl := .strong) (q1B (q0l (q0b rfl) q0c rfl) q0I q7A)) (q0T (q0P (cl := .strong) (q1S (l := [(.str "end", .strong), (.int ((v + 1 + n % 9) % 10), .strong)]) (q0a q0I (q0a (q1w (q2g (q2g (q0l (q0b rfl) q0c rfl) q0c) (q1w (q0l (q0b rfl) (q1w (q0b rfl) hlen (by decide)) hn) q0c (by decide))) q0c (by decide)) q0e)) (show 2 <= mostLen by decide) rfl))))
 | .ask s o a b, at', k + 1, h, hk => by
  unfold ht at hk
  obtain ⟨h1, h2, h3, h4⟩ := h
  obtain ⟨n, hn⟩ := q2Z (l := xs) (i := at' % 59) (by omega) (by rw [hx]; omega)
  obtain ⟨n', hn'⟩ := q2Z (l := xs) (i := (at' + 1) % 59) (by omega) (by rw [hx]; omega)
  have hlen : evE G (run G T fu k) (.bi .len [.var 1]) (q0i 3 [dv (.ask s o a b), .lst (iD xs), .int at']) = some (.ok (.int 59) .strong) := by
   have t := q1W (F := run G T fu k) (δ := q0i 3 [dv (.ask s o a b), .lst (iD xs), .int at']) (e := .var 1) (ds := iD xs) (c := .strong) rfl
   rw [show (iD xs).length = 59 by unfold iD; rw [List.length_map, hx]] at t
   exact t
  have f1 : tstD (evE G (run G T fu k) (.cmp .Eq (.ix (.var 0) (.int 0)) (.str "end")) (q0i 3 [dv (.ask s o a b), .lst (iD xs), .int at'])) = some (.ok false) := q0r (cl := .strong) (q1B (q0l (q0b rfl) q0c rfl) q0I q9J)
  have g := q0l (G := G) (F := run G T fu k) (δ := q0i 3 [dv (.ask s o a b), .lst (iD xs), .int at']) (q0b (n := 1) (d := .lst (iD xs)) rfl) (q1w (q0b (n := 2) rfl) hlen (by decide)) hn
  have t5 := b_eq (q1w g (q0c (i := 5)) (by decide)) (q0c (i := 0))
  have t2 := b_eq (q1w g (q0c (i := 2)) (by decide)) (q0c (i := 0))
  cases q5 : (n % 5 == 0) with
  | true =>
   rw [q5] at t5
   obtain ⟨o', ho'⟩ := q7s n'
   refine ⟨.ask s o' a b, ⟨by omega, by omega, h3, h4⟩, Nat.le_refl _, Nat.le_refl _, ?_⟩
   rw [q0u (fd := q0q) rfl rfl]
   unfold q0q
   exact q0W (q1m f1 (q2o (q0r t5) (q0T (q0P (cl := .strong) (q1S (l := [(.str "ask", .strong), (side s, .strong), (.int o', .strong), (dv a, .strong), (dv b, .strong)]) (q0a q0I (q0a (q0l (q0b rfl) q0c rfl) (q0a (by rw [← ho']; exact q2g q0c (q1w (q0l (q0b rfl) (q1w (q2g (q0b rfl) q0c) hlen (by decide)) hn') q0c (by decide))) (q0a (q0l (q0b rfl) q0c rfl) (q0a (q0l (q0b rfl) q0c rfl) q0e))))) (show 5 <= mostLen by decide) rfl)))))
  | false =>
   rw [q5] at t5
   cases q2 : (n % 2 == 0) with
   | true =>
    rw [q2] at t2
    obtain ⟨a', a1, a2, a3, a4⟩ := q4j xs hx a (at' + 2) k h3 (by omega)
    refine ⟨.ask s o a' b, ⟨h1, h2, a1, h4⟩, by unfold ht; omega, by unfold lv; omega, ?_⟩
    rw [q0u (fd := q0q) rfl rfl]
    unfold q0q
    exact q0W (q1m f1 (q1m (q0r t5) (q2o (q0r t2) (q0T (q0P (cl := .strong) (q1S (l := [(.str "ask", .strong), (side s, .strong), (.int o, .strong), (dv a', .strong), (dv b, .strong)]) (q0a q0I (q0a (q0l (q0b rfl) q0c rfl) (q0a (q0l (q0b rfl) q0c rfl) (q0a (q0f (q0a (q0l (q0b rfl) q0c rfl) (q0a (q0b rfl) (q0a (q2g (q0b rfl) q0c) q0e))) rfl a4) (q0a (q0l (q0b rfl) q0c rfl) q0e))))) (show 5 <= mostLen by decide) rfl))))))
   | false =>
    rw [q2] at t2
    obtain ⟨b', b1, b2, b3, b4⟩ := q4j xs hx b (at' + 2) k h4 (by omega)
    refine ⟨.ask s o a b', ⟨h1, h2, h3, b1⟩, by unfold ht; omega, by unfold lv; omega, ?_⟩
    rw [q0u (fd := q0q) rfl rfl]
    unfold q0q
    exact q0W (q1m f1 (q1m (q0r t5) (q1m (q0r t2) (q0T (q0P (cl := .strong) (q1S (l := [(.str "ask", .strong), (side s, .strong), (.int o, .strong), (dv a, .strong), (dv b', .strong)]) (q0a q0I (q0a (q0l (q0b rfl) q0c rfl) (q0a (q0l (q0b rfl) q0c rfl) (q0a (q0l (q0b rfl) q0c rfl) (q0a (q0f (q0a (q0l (q0b rfl) q0c rfl) (q0a (q0b rfl) (q0a (q2g (q0b rfl) q0c) q0e))) rfl b4) q0e))))) (show 5 <= mostLen by decide) rfl))))))
theorem z3O (n : Int) : ∃ tp : Int, 0 < tp /\ tp <= 10 /\ ixD (.lst [.int 2, .int 3, .int 10]) (.int (n % 3)) = some (.int tp) := by
 have : n % 3 = 0 \/ n % 3 = 1 \/ n % 3 = 2 := by omega
 rcases this with h | h | h
 ·exact ⟨2, by decide, by decide, by rw [h]; rfl⟩
 ·exact ⟨3, by decide, by decide, by rw [h]; rfl⟩
 ·exact ⟨10, by decide, by decide, by rw [h]; rfl⟩
theorem z2Y {e : ME} {n : Nat} {c : Cl} (h : evE G F e δ = some (.ok (.int n) c)) (hn : n <= 1000) : evE G F (.bi .lrng [e]) δ = some (.ok (.lst (nD (List.range' 0 n))) .fresh) := by
 show Rs.thn (evEs G F [e] δ) (λ l => z0d l) = _
 rw [q0a h q0e]
 have hs : (decide (-(2 ^ 62) <= (n : Int)) && decide ((n : Int) <= (mostLen : Int))) = true := by
  rw [Bool.and_eq_true, decide_eq_true_iff, decide_eq_true_iff]
  exact ⟨Int.le_trans (by decide) (Int.natCast_nonneg n), Int.le_trans (show (n : Int) <= 1000 by omega) (by decide)⟩
 show (if decide (-(2 ^ 62) <= (n : Int)) && decide ((n : Int) <= (mostLen : Int)) then some (Re.ok (.lst (upTo 0 (n : Int).toNat)) .fresh) else none) = _
 rw [if_pos hs, Int.toNat_natCast, q7t, List.range_eq_range']
theorem z0N (w : Int) (n : Nat) : (List.replicate n [DV.int w]).flatten = iD (List.replicate n w) := by
 induction n with
 | zero => rfl
 | succ n ih => rw [List.replicate_succ, List.flatten_cons, ih, List.replicate_succ]; rfl
end k14
end
section
namespace k14
open PySem L2
variable {fu k : Nat} {F : Nat -> List DV -> Option Ou} {δ : List Sv}
theorem q8A {r : List Int} {j : Nat} (h : j < r.length) : r.getD j 0 ∈ r := by
 rw [List.getD_eq_getElem?_getD, List.getElem?_eq_getElem h, Option.getD_some]; exact List.getElem_mem h
theorem z1d {rs : List (List Int)} (hl : rs.length <= mostLen) (d7 : δ[7]? = some (.val (tT rs))) : evE G F (.comp (.bi .list [.var 0]) (.one 0) (.var 7) [none]) δ = some (.ok (rL rs) .fresh) :=
 q6Q (l := rs) (h := λ r => .tup (iD r)) (f := λ r => .lst (iD r)) (cl := .strong) (by rw [q0b d7]; rfl) (by decide) hl λ r hr => ⟨[.val (.tup (iD r))], .fresh, rfl, rfl, rfl⟩
theorem z2d : ∀ ns : List Int, ns.length <= 63 -> run G T 100 40 25 [.scr ns] = some (.v (.bl true) false) := by
 intro ns hns
 obtain ⟨v2, c2⟩ := q7c (fu := 100) (k := 38) ns 2
 obtain ⟨v3, c3⟩ := q7c (fu := 100) (k := 38) ns 3
 obtain ⟨xs, hx, s2⟩ := q3N (fu := 100) (k := 38) v2 60 (by decide)
 obtain ⟨ys, hy, s3⟩ := q3N (fu := 100) (k := 38) v3 50 (by decide)
 obtain ⟨a0, h0⟩ := q2Z (l := xs) (i := 0) (by omega) (by rw [hx]; omega)
 obtain ⟨a1, h1⟩ := q2Z (l := xs) (i := 1) (by omega) (by rw [hx]; omega)
 obtain ⟨tp, t1, t2, t3⟩ := z3O a0
 obtain ⟨n, m, rows, n0, n8, m0, m8, R, hb, e2⟩ := z1Z (fu := 100) (k := 37) ns hns tp t1
 have h9 : ∀ r ∈ rows, ∀ x ∈ r, 0 <= x /\ x <= 9 := λ r hr x hxr => ⟨(hb r hr x hxr).1, by have := (hb r hr x hxr).2; omega⟩
 have e3 := q7B (fu := 100) (k := 38) rows (by rw [R.1]; omega)
 obtain ⟨p, p1, p2, p3, p4, p5⟩ := q7Q (fu := 100) R n8 m0 m8 h9 3 n 0 n0 (by show n <= 8; exact n8) (by omega)
 have e4 := p5 39 (by omega)
 have gd : good p n m rows = true := (q3O p n m rows).mpr λ i hi j hj => p4 i (Nat.zero_le _) (by omega) j hj
 have e5 := z4H (fu := 100) (k := 37) p (by omega) R n0 n8 m8
 rw [gd] at e5
 have told := λ (q : Pl) (q1 : Okp q) (q2 : ht q <= 12) (q3 : lv q <= 301) => z1Q (fu := 100) (k := 38) q q1 q2 q3 (by omega) R n0 n8 m8 (by omega)
 have e6 := told p p1 (by omega) (by omega)
 obtain ⟨x0, xr, rfl⟩ : ∃ x0 xr, xs = x0 :: xr := by
  cases xs with
  | nil => cases hx
  | cons x0 xr => exact ⟨x0, xr, rfl⟩
 obtain ⟨q, q1, q2, q3, e7⟩ := q4j (fu := 100) xr (by simpa using hx) p 0 39 p1 (by omega)
 have e8 := told q q1 (by omega) (by omega)
 obtain ⟨dd, hd⟩ : ∃ dd : Nat, a1 % 5 = (dd : Int) := ⟨(a1 % 5).toNat, by omega⟩
 obtain ⟨z, z1, z2, z3, z4⟩ := z5F (fu := 100) ys hy dd 0
 have e9 := z4 39 (by omega)
 have d4 : dd <= 4 := by omega
 have pw : 2 ^ dd <= 2 ^ 4 := Nat.pow_le_pow_right (by decide) d4
 have e10 := told z z1 (by omega) (by omega)
 have r0 : 0 < rows.length := by rw [R.1]; exact n0
 have c0 : 0 < (rows.getD 0 []).length := by rw [R.2 _ (q1J r0)]; exact m0
 obtain ⟨w, hw⟩ : ∃ w, (rows.getD 0 []).getD 0 0 = w := ⟨_, rfl⟩
 have i0 : ixD (tT rows) (.int 0) = some (.tup (iD (rows.getD 0 []))) := z4I r0
 have i1 : ixD (.tup (iD (rows.getD 0 []))) (.int 0) = some (.int w) := by rw [← hw]; exact q8j c0
 have w9 : 0 <= w /\ w <= 9 := h9 _ (q1J r0) w (by rw [← hw]; exact q8A c0)
 have R1 : Rect n m (rows.map λ r => List.replicate r.length w) := ⟨by rw [List.length_map]; exact R.1, λ r hr => by
  obtain ⟨r', hr', rfl⟩ := List.mem_map.mp hr
  rw [List.length_replicate]; exact R.2 r' hr'⟩
 have e11 := z1Q (fu := 100) (k := 38) (.fin w) w9 (Nat.zero_le _) (by show 1 <= 301; omega) (by omega) R1 n0 n8 m8 (by omega)
 replace e11 : run G T 100 39 24 [.tup [.str "end", .int w], rL (rows.map λ r => List.replicate r.length w), tT (rows.map λ r => List.replicate r.length w)] = some (.v (.bl true) false) := e11
 obtain ⟨rs, hrs⟩ : ∃ rs, (rows.map λ r => List.replicate r.length w) = rs := ⟨_, rfl⟩
 rw [hrs] at e11 R1
 have hl8 : rows.length <= mostLen := by rw [R.1]; exact Nat.le_trans n8 (by decide)
 have cm : ∀ δ : List Sv, δ[3]? = some (.val (tT rows)) -> evE G (run G T 100 39) (.comp (.bi .tuple [.bin .Mult (.lst [.ix (.ix (.var 1) (.int 0)) (.int 0)]) (.bi .len [.var 0])]) (.one 0) (.var 3) [none, some 3]) δ = some (.ok (.lst (rows.map λ r => .tup (iD (List.replicate r.length w)))) .fresh) := λ δ d3 => by
  have d3' : δ.getD 3 .no = .val (tT rows) := by rw [List.getD_eq_getElem?_getD, d3]; rfl
  refine q6Q (l := rows) (h := λ r => .tup (iD r)) (cl := .strong) (by rw [q0b d3]; rfl) (by decide) hl8 λ r hr => ?_
  have rl : r.length <= 8 := by rw [R.2 r hr]; exact m8
  refine ⟨[.val (.tup (iD r)), .val (tT rows)], .strong, ?_, ?_, rfl⟩
  ·show some ((q0R [none, some 3] δ).set 0 (.val (.tup (iD r)))) = _
   unfold q0R
   simp only [List.map_cons, List.map_nil, d3']
   rfl
  ·refine q2F (c := .fresh) (q4g (x := .lst [.int w]) (cx := .fresh) (y := .int (r.length : Nat)) (cy := .strong) ?_ ?_ ?_)
   ·exact z5Y (l := [(.int w, .strong)]) (q0a (q0l (q0l (q0b rfl) q0c i0) q0c i1) q0e) (show 1 <= mostLen by decide) rfl
   ·have t := q6A (F := run G T 100 39) (δ := [.val (.tup (iD r)), .val (tT rows)]) (e := .var 0) (ds := iD r) (c := .strong) rfl
    rw [show (iD r).length = r.length by unfold iD; rw [List.length_map]] at t
    exact t
   ·have cond : ([DV.int w].length * ((r.length : Nat) : Int).toNat <= mostLen /\ -(2 ^ 63) <= ((r.length : Nat) : Int) /\ ((r.length : Nat) : Int) < 2 ^ 63) := by
     refine ⟨?_, ?_, ?_⟩
     ·rw [Int.toNat_natCast]; show 1 * r.length <= mostLen; rw [Nat.one_mul]; exact Nat.le_trans rl (by decide)
     ·exact Int.le_trans (by decide) (Int.natCast_nonneg _)
     ·exact Int.lt_of_le_of_lt (show ((r.length : Nat) : Int) <= 8 by omega) (by decide)
    have e : binD .Mult (.lst [.int w]) (.int ((r.length : Nat) : Int)) .fresh .strong = (if [DV.int w].length * ((r.length : Nat) : Int).toNat <= mostLen /\ -(2 ^ 63) <= ((r.length : Nat) : Int) /\ ((r.length : Nat) : Int) < 2 ^ 63 then some (.ok (.lst (List.replicate ((r.length : Nat) : Int).toNat [DV.int w]).flatten) (Cl.anew .fresh .fresh)) else none) := rfl
    rw [e, if_pos cond, Int.toNat_natCast, z0N]
    rfl
 rw [q0u (fd := z0s) rfl rfl]
 unfold z0s
 refine q0W (q0F (q0y (q0f (q0a (q0f (l := [(.scr ns, .strong), (.int 2, .strong)]) rfl rfl c2) (q0a q0c q0e)) rfl s2) rfl)
  (q0F (q0y (q0f (l := [(.scr ns, .strong), (.int 4, .strong), (.int tp, .strong)]) (q0a (q0b rfl) (q0a q0c (q0a (q0l (x := .lst [.int 2, .int 3, .int 10]) (cx := .fresh) rfl (q1w (q0l (q0b rfl) q0c h0) q0c (by decide)) t3) q0e))) rfl e2) rfl)
  (q0F (q0y (q0f (l := [(rL rows, .strong)]) rfl rfl e3) rfl)
  (q0F (q0y (d := dv p) (cl := .strong) (q0f (l := [(rL rows, .strong), (.lst (nD (List.range' 0 n)), .fresh)]) (q0a (q0b rfl) (q0a (z2Y (n := n) (c := .strong) ?_ (by omega)) q0e)) rfl e4) rfl)
  (q1m (q0r (cl := .strong) (q3p (q4c (x := true) (q0f (l := [(dv p, .strong), (rL rows, .strong)]) rfl rfl e5)) (q4c (x := true) (q0f (l := [(dv p, .strong), (rL rows, .strong), (tT rows, .strong)]) rfl rfl e6))))
  (q0F (q0y (d := dv q) (cl := .strong) (q0f (l := [(dv p, .strong), (.lst (iD xr), .fresh), (.int 0, .strong)]) (q0a (q0b rfl) (q0a ?_ (q0a q0c q0e))) rfl e7) rfl)
  (q0F (q0y (d := dv z) (cl := .strong) (q0f (l := [(.lst (ys.map DV.int), .fresh), (.int 0, .strong), (.int dd, .strong), (.int 3, .strong)]) (q0a (q0f (l := [(.int v3, .strong), (.int 50, .strong)]) (q0a (q0f (l := [(.scr ns, .strong), (.int 3, .strong)]) rfl rfl c3) (q0a q0c q0e)) rfl s3) (q0a q0c (q0a (by rw [← hd]; exact q1w (q0l (q0b rfl) q0c h1) q0c (by decide)) (q0a q0c q0e)))) rfl e9) rfl)
  (q1m (q0r (cl := .strong) (q3p (q4c (x := true) (q0f (l := [(dv q, .strong), (rL rows, .strong), (tT rows, .strong)]) rfl rfl e8)) (q4c (x := true) (q0f (l := [(dv z, .strong), (rL rows, .strong), (tT rows, .strong)]) rfl rfl e10))))
  (q0F (q0y (d := tT rs) (cl := .strong) ?_ rfl)
  (q0T (q0P (cl := .strong) (q0f (l := [(.tup [.str "end", .int w], .strong), (rL rs, .fresh), (tT rs, .strong)]) (q0a (q1S (l := [(.str "end", .strong), (.int w, .strong)]) (q0a q0I (q0a (q0l (q0l (q0b rfl) q0c i0) q0c i1) q0e)) (show 2 <= mostLen by decide) rfl) (q0a (z1d (by rw [R1.1, ← R.1]; exact hl8) rfl) (q0a (q0b rfl) q0e))) rfl e11))))))))))))
 ·have t := q1W (F := run G T 100 39) (δ := [.val (.scr ns), .val (.lst ((x0 :: xr).map DV.int)), .val (rL rows), .val (tT rows), .no, .no, .no, .no]) (e := .var 2) (ds := rows.map λ r => .lst (iD r)) (c := .strong) rfl
  rw [List.length_map, R.1] at t
  exact t
 ·exact q8s (l := 1) (ds := (x0 :: xr).map DV.int) (c := .strong) rfl rfl (by simp)
 ·have t := q2F (F := run G T 100 39) (cm [.val (.scr ns), .val (.lst ((x0 :: xr).map DV.int)), .val (rL rows), .val (tT rows), .val (dv p), .val (dv q), .val (dv z), .no] rfl)
  rw [← hrs]
  unfold tT
  rw [List.map_map]
  exact t
end k14
end
section
namespace k14
open PySem L2 PySem.Spec PyProof.Rows
noncomputable def top (i : Nat) : Stmt := PySem.Challenge.pw_talkleast_k14_settled_or_not.main.body.getD i (.Pass ⟨0, 0, 0, 0⟩)
theorem lnS {α : Type} {us : List α} {n : Nat} (h : us.length = n + 1) : ∃ a r, us = a :: r /\ r.length = n := by cases us with | nil => cases h | cons a r => exact ⟨a, r, rfl, Nat.succ.inj h⟩
theorem ln0 {α : Type} {us : List α} (h : us.length = 0) : us = [] := List.length_eq_zero_iff.mp h
noncomputable def fn : List Str := ["is_int", "flipped", "way", "reached", "settles", "made_plan", "is_plan", "is_end", "is_ask", "is_tuple", "is_text", "outcomes_of", "flipped_plan", "_law_cell_at", "_law_stream", "_law_table", "_law_as_table", "_law_plan", "_law_set", "_law_words", "_law_settling", "_law_changed", "_law_reached", "_law_due", "_law_told", "law"]
noncomputable def bl : List Str := ["isinstance", "int", "bool", "tuple", "range", "len", "enumerate", "str", "min", "sorted", "set", "list"]
noncomputable def cl : List Str := ["TalkError", "NoPlan"]
theorem ok0 : okD fn bl cl q3h ["thing", "least", "most"] ["thing", "least", "most"] (top 1) = true := by decide +kernel
theorem ok1 : okD fn bl cl q3a ["table"] ["table"] (top 7) = true := by decide +kernel
theorem ok2 : okD fn bl cl z0M ["plan", "row", "column", "bits", "place", "card", "bit"] ["plan", "row", "column"] (top 9) = true := by decide +kernel
theorem ok3 : okD fn bl cl q3i ["plan", "row", "column"] ["plan", "row", "column"] (top 10) = true := by decide +kernel
theorem ok4 : okD fn bl cl q2Y ["plan", "table", "row", "words", "column", "word"] ["plan", "table"] (top 11) = true := by decide +kernel
theorem ok5 : okD fn bl cl q2m ["thing"] ["thing"] (top 17) = true := by decide +kernel
theorem ok6 : okD fn bl cl q1P ["thing", "deep"] ["thing", "deep"] (top 18) = true := by decide +kernel
theorem ok7 : okD fn bl cl q2C ["thing"] ["thing"] (top 19) = true := by decide +kernel
theorem ok8 : okD fn bl cl q3I ["thing"] ["thing"] (top 20) = true := by decide +kernel
theorem ok9 : okD fn bl cl q2E ["thing", "size"] ["thing", "size"] (top 21) = true := by decide +kernel
theorem ok10 : okD fn bl cl q3c ["thing", "text"] ["thing", "text"] (top 22) = true := by decide +kernel
theorem ok11 : okD fn bl cl q1a ["plan"] ["plan"] (top 23) = true := by decide +kernel
theorem ok12 : okD fn bl cl q0V ["plan"] ["plan"] (top 24) = true := by decide +kernel
theorem ok13 : okD fn bl cl q1t ["_law_script", "_law_k"] ["_law_script", "_law_k"] (top 26) = true := by decide +kernel
theorem ok14 : okD fn bl cl q1C ["_law_cell", "_law_many", "_law_found", "_law_number", "_law_k"] ["_law_cell", "_law_many"] (top 27) = true := by decide +kernel
theorem ok15 : okD fn bl cl q1L ["_law_script", "_law_start", "_law_most", "_law_xs", "_law_many", "_law_wide", "_law_words_here", "_law_k"] ["_law_script", "_law_start", "_law_most"] (top 28) = true := by decide +kernel
theorem ok16 : okD fn bl cl q1n ["_law_rows"] ["_law_rows"] (top 29) = true := by decide +kernel
theorem ok17 : okD fn bl cl q0Z ["_law_xs", "_law_at", "_law_depth", "_law_wide", "_law_number", "_law_side", "_law_cards", "_law_no"] ["_law_xs", "_law_at", "_law_depth", "_law_wide"] (top 30) = true := by decide +kernel
theorem ok18 : okD fn bl cl q2G ["_law_cards", "_law_found", "_law_card"] ["_law_cards"] (top 31) = true := by decide +kernel
theorem ok19 : okD fn bl cl q1K ["_law_row", "_law_words_here", "_law_plan_here", "_law_word", "_law_cards"] ["_law_row"] (top 32) = true := by decide +kernel
theorem ok20 : okD fn bl cl q0K ["_law_rows", "_law_cards", "_law_half", "_law_yes"] ["_law_rows", "_law_cards"] (top 33) = true := by decide +kernel
theorem ok21 : okD fn bl cl q0q ["_law_plan_here", "_law_xs", "_law_at"] ["_law_plan_here", "_law_xs", "_law_at"] (top 34) = true := by decide +kernel
theorem ok22 : okD fn bl cl q1v ["_law_plan_here", "_law_row", "_law_column", "_law_card"] ["_law_plan_here", "_law_row", "_law_column"] (top 35) = true := by decide +kernel
theorem ok23 : okD fn bl cl q2D ["_law_plan_here", "_law_rows", "_law_r", "_law_c"] ["_law_plan_here", "_law_rows"] (top 36) = true := by decide +kernel
theorem ok24 : okD fn bl cl q1Y ["_law_plan_here", "_law_rows", "_law_table_here", "_law_due_here", "_law_found", "_law_turned_about"] ["_law_plan_here", "_law_rows", "_law_table_here"] (top 37) = true := by decide +kernel
theorem ok25 : okD fn bl cl z0s ["_law_script", "_law_xs", "_law_rows", "_law_table_here", "_law_plan_here", "_law_other", "_law_drawn", "_law_one_word"] ["_law_script"] (top 38) = true := by decide +kernel
open PySem.W
theorem all_mk {l : OpenLaw} {w : World} {K : Frag} {h : Heap} {mg : Str -> Option Value} {fa f0 f1 f2 f3 f4 f5 f6 f7 f8 f9 f10 f11 f12 f13 f14 f15 f16 f17 f18 f19 f20 f21 f22 f23 f24 f25 : Addr} (X : K.In h) (Ns : h.Ns mainGlobals mg) (hfa : mg "law" = some (.ref fa))
  {od0 an0 od1 an1 od2 an2 od3 an3 od4 an4 od5 an5 od6 an6 od7 an7 od8 an8 od9 an9 od10 an10 od11 an11 od12 an12 od13 an13 od14 an14 od15 an15 od16 an16 od17 an17 od18 an18 od19 an19 od20 an20 od21 an21 od22 an22 od23 an23 od24 an24 od25 an25 : Option Addr} {sl0 sl1 sl2 sl3 sl4 sl5 sl6 sl7 sl8 sl9 sl10 sl11 sl12 sl13 sl14 sl15 sl16 sl17 sl18 sl19 sl20 sl21 sl22 sl23 sl24 sl25 : Array (Option Value)} {oc0 kV0 dc0 pm0 cd0 ct0 oc1 kV1 dc1 pm1 cd1 ct1 oc2 kV2 dc2 pm2 cd2 ct2 oc3 kV3 dc3 pm3 cd3 ct3 oc4 kV4 dc4 pm4 cd4 ct4 oc5 kV5 dc5 pm5 cd5 ct5 oc6 kV6 dc6 pm6 cd6 ct6 oc7 kV7 dc7 pm7 cd7 ct7 oc8 kV8 dc8 pm8 cd8 ct8 oc9 kV9 dc9 pm9 cd9 ct9 oc10 kV10 dc10 pm10 cd10 ct10 oc11 kV11 dc11 pm11 cd11 ct11 oc12 kV12 dc12 pm12 cd12 ct12 oc13 kV13 dc13 pm13 cd13 ct13 oc14 kV14 dc14 pm14 cd14 ct14 oc15 kV15 dc15 pm15 cd15 ct15 oc16 kV16 dc16 pm16 cd16 ct16 oc17 kV17 dc17 pm17 cd17 ct17 oc18 kV18 dc18 pm18 cd18 ct18 oc19 kV19 dc19 pm19 cd19 ct19 oc20 kV20 dc20 pm20 cd20 ct20 oc21 kV21 dc21 pm21 cd21 ct21 oc22 kV22 dc22 pm22 cd22 ct22 oc23 kV23 dc23 pm23 cd23 ct23 oc24 kV24 dc24 pm24 cd24 ct24 oc25 kV25 dc25 pm25 cd25 ct25 : Value}
  (a0 : nsIn K mainGlobals "is_int" = some (some (.ref f0))) (l0 : K.lookup f0 = some ⟨oc0, od0, .func (fnOf "is_int" "is_int" (q0n (top 1)) (q0j (top 1)) (q0d (top 1)) .none kV0 dc0 pm0 an0 cd0 ct0), sl0⟩) (c0 : codeIn K cd0 "is_int" = true) (k0 : keepIn K (.ref f0) = true)
  (a1 : nsIn K mainGlobals "flipped" = some (some (.ref f1))) (l1 : K.lookup f1 = some ⟨oc1, od1, .func (fnOf "flipped" "flipped" (q0n (top 7)) (q0j (top 7)) (q0d (top 7)) .none kV1 dc1 pm1 an1 cd1 ct1), sl1⟩) (c1 : codeIn K cd1 "flipped" = true) (k1 : keepIn K (.ref f1) = true)
  (a2 : nsIn K mainGlobals "way" = some (some (.ref f2))) (l2 : K.lookup f2 = some ⟨oc2, od2, .func (fnOf "way" "way" (q0n (top 9)) (q0j (top 9)) (q0d (top 9)) .none kV2 dc2 pm2 an2 cd2 ct2), sl2⟩) (c2 : codeIn K cd2 "way" = true) (k2 : keepIn K (.ref f2) = true)
  (a3 : nsIn K mainGlobals "reached" = some (some (.ref f3))) (l3 : K.lookup f3 = some ⟨oc3, od3, .func (fnOf "reached" "reached" (q0n (top 10)) (q0j (top 10)) (q0d (top 10)) .none kV3 dc3 pm3 an3 cd3 ct3), sl3⟩) (c3 : codeIn K cd3 "reached" = true) (k3 : keepIn K (.ref f3) = true)
  (a4 : nsIn K mainGlobals "settles" = some (some (.ref f4))) (l4 : K.lookup f4 = some ⟨oc4, od4, .func (fnOf "settles" "settles" (q0n (top 11)) (q0j (top 11)) (q0d (top 11)) .none kV4 dc4 pm4 an4 cd4 ct4), sl4⟩) (c4 : codeIn K cd4 "settles" = true) (k4 : keepIn K (.ref f4) = true)
  (a5 : nsIn K mainGlobals "made_plan" = some (some (.ref f5))) (l5 : K.lookup f5 = some ⟨oc5, od5, .func (fnOf "made_plan" "made_plan" (q0n (top 17)) (q0j (top 17)) (q0d (top 17)) .none kV5 dc5 pm5 an5 cd5 ct5), sl5⟩) (c5 : codeIn K cd5 "made_plan" = true) (k5 : keepIn K (.ref f5) = true)
  (a6 : nsIn K mainGlobals "is_plan" = some (some (.ref f6))) (l6 : K.lookup f6 = some ⟨oc6, od6, .func (fnOf "is_plan" "is_plan" (q0n (top 18)) (q0j (top 18)) (q0d (top 18)) .none kV6 dc6 pm6 an6 cd6 ct6), sl6⟩) (c6 : codeIn K cd6 "is_plan" = true) (k6 : keepIn K (.ref f6) = true)
  (a7 : nsIn K mainGlobals "is_end" = some (some (.ref f7))) (l7 : K.lookup f7 = some ⟨oc7, od7, .func (fnOf "is_end" "is_end" (q0n (top 19)) (q0j (top 19)) (q0d (top 19)) .none kV7 dc7 pm7 an7 cd7 ct7), sl7⟩) (c7 : codeIn K cd7 "is_end" = true) (k7 : keepIn K (.ref f7) = true)
  (a8 : nsIn K mainGlobals "is_ask" = some (some (.ref f8))) (l8 : K.lookup f8 = some ⟨oc8, od8, .func (fnOf "is_ask" "is_ask" (q0n (top 20)) (q0j (top 20)) (q0d (top 20)) .none kV8 dc8 pm8 an8 cd8 ct8), sl8⟩) (c8 : codeIn K cd8 "is_ask" = true) (k8 : keepIn K (.ref f8) = true)
  (a9 : nsIn K mainGlobals "is_tuple" = some (some (.ref f9))) (l9 : K.lookup f9 = some ⟨oc9, od9, .func (fnOf "is_tuple" "is_tuple" (q0n (top 21)) (q0j (top 21)) (q0d (top 21)) .none kV9 dc9 pm9 an9 cd9 ct9), sl9⟩) (c9 : codeIn K cd9 "is_tuple" = true) (k9 : keepIn K (.ref f9) = true)
  (a10 : nsIn K mainGlobals "is_text" = some (some (.ref f10))) (l10 : K.lookup f10 = some ⟨oc10, od10, .func (fnOf "is_text" "is_text" (q0n (top 22)) (q0j (top 22)) (q0d (top 22)) .none kV10 dc10 pm10 an10 cd10 ct10), sl10⟩) (c10 : codeIn K cd10 "is_text" = true) (k10 : keepIn K (.ref f10) = true)
  (a11 : nsIn K mainGlobals "outcomes_of" = some (some (.ref f11))) (l11 : K.lookup f11 = some ⟨oc11, od11, .func (fnOf "outcomes_of" "outcomes_of" (q0n (top 23)) (q0j (top 23)) (q0d (top 23)) .none kV11 dc11 pm11 an11 cd11 ct11), sl11⟩) (c11 : codeIn K cd11 "outcomes_of" = true) (k11 : keepIn K (.ref f11) = true)
  (a12 : nsIn K mainGlobals "flipped_plan" = some (some (.ref f12))) (l12 : K.lookup f12 = some ⟨oc12, od12, .func (fnOf "flipped_plan" "flipped_plan" (q0n (top 24)) (q0j (top 24)) (q0d (top 24)) .none kV12 dc12 pm12 an12 cd12 ct12), sl12⟩) (c12 : codeIn K cd12 "flipped_plan" = true) (k12 : keepIn K (.ref f12) = true)
  (a13 : nsIn K mainGlobals "_law_cell_at" = some (some (.ref f13))) (l13 : K.lookup f13 = some ⟨oc13, od13, .func (fnOf "_law_cell_at" "_law_cell_at" (q0n (top 26)) (q0j (top 26)) (q0d (top 26)) .none kV13 dc13 pm13 an13 cd13 ct13), sl13⟩) (c13 : codeIn K cd13 "_law_cell_at" = true) (k13 : keepIn K (.ref f13) = true)
  (a14 : nsIn K mainGlobals "_law_stream" = some (some (.ref f14))) (l14 : K.lookup f14 = some ⟨oc14, od14, .func (fnOf "_law_stream" "_law_stream" (q0n (top 27)) (q0j (top 27)) (q0d (top 27)) .none kV14 dc14 pm14 an14 cd14 ct14), sl14⟩) (c14 : codeIn K cd14 "_law_stream" = true) (k14 : keepIn K (.ref f14) = true)
  (a15 : nsIn K mainGlobals "_law_table" = some (some (.ref f15))) (l15 : K.lookup f15 = some ⟨oc15, od15, .func (fnOf "_law_table" "_law_table" (q0n (top 28)) (q0j (top 28)) (q0d (top 28)) .none kV15 dc15 pm15 an15 cd15 ct15), sl15⟩) (c15 : codeIn K cd15 "_law_table" = true) (k15 : keepIn K (.ref f15) = true)
  (a16 : nsIn K mainGlobals "_law_as_table" = some (some (.ref f16))) (l16 : K.lookup f16 = some ⟨oc16, od16, .func (fnOf "_law_as_table" "_law_as_table" (q0n (top 29)) (q0j (top 29)) (q0d (top 29)) .none kV16 dc16 pm16 an16 cd16 ct16), sl16⟩) (c16 : codeIn K cd16 "_law_as_table" = true) (k16 : keepIn K (.ref f16) = true)
  (a17 : nsIn K mainGlobals "_law_plan" = some (some (.ref f17))) (l17 : K.lookup f17 = some ⟨oc17, od17, .func (fnOf "_law_plan" "_law_plan" (q0n (top 30)) (q0j (top 30)) (q0d (top 30)) .none kV17 dc17 pm17 an17 cd17 ct17), sl17⟩) (c17 : codeIn K cd17 "_law_plan" = true) (k17 : keepIn K (.ref f17) = true)
  (a18 : nsIn K mainGlobals "_law_set" = some (some (.ref f18))) (l18 : K.lookup f18 = some ⟨oc18, od18, .func (fnOf "_law_set" "_law_set" (q0n (top 31)) (q0j (top 31)) (q0d (top 31)) .none kV18 dc18 pm18 an18 cd18 ct18), sl18⟩) (c18 : codeIn K cd18 "_law_set" = true) (k18 : keepIn K (.ref f18) = true)
  (a19 : nsIn K mainGlobals "_law_words" = some (some (.ref f19))) (l19 : K.lookup f19 = some ⟨oc19, od19, .func (fnOf "_law_words" "_law_words" (q0n (top 32)) (q0j (top 32)) (q0d (top 32)) .none kV19 dc19 pm19 an19 cd19 ct19), sl19⟩) (c19 : codeIn K cd19 "_law_words" = true) (k19 : keepIn K (.ref f19) = true)
  (a20 : nsIn K mainGlobals "_law_settling" = some (some (.ref f20))) (l20 : K.lookup f20 = some ⟨oc20, od20, .func (fnOf "_law_settling" "_law_settling" (q0n (top 33)) (q0j (top 33)) (q0d (top 33)) .none kV20 dc20 pm20 an20 cd20 ct20), sl20⟩) (c20 : codeIn K cd20 "_law_settling" = true) (k20 : keepIn K (.ref f20) = true)
  (a21 : nsIn K mainGlobals "_law_changed" = some (some (.ref f21))) (l21 : K.lookup f21 = some ⟨oc21, od21, .func (fnOf "_law_changed" "_law_changed" (q0n (top 34)) (q0j (top 34)) (q0d (top 34)) .none kV21 dc21 pm21 an21 cd21 ct21), sl21⟩) (c21 : codeIn K cd21 "_law_changed" = true) (k21 : keepIn K (.ref f21) = true)
  (a22 : nsIn K mainGlobals "_law_reached" = some (some (.ref f22))) (l22 : K.lookup f22 = some ⟨oc22, od22, .func (fnOf "_law_reached" "_law_reached" (q0n (top 35)) (q0j (top 35)) (q0d (top 35)) .none kV22 dc22 pm22 an22 cd22 ct22), sl22⟩) (c22 : codeIn K cd22 "_law_reached" = true) (k22 : keepIn K (.ref f22) = true)
  (a23 : nsIn K mainGlobals "_law_due" = some (some (.ref f23))) (l23 : K.lookup f23 = some ⟨oc23, od23, .func (fnOf "_law_due" "_law_due" (q0n (top 36)) (q0j (top 36)) (q0d (top 36)) .none kV23 dc23 pm23 an23 cd23 ct23), sl23⟩) (c23 : codeIn K cd23 "_law_due" = true) (k23 : keepIn K (.ref f23) = true)
  (a24 : nsIn K mainGlobals "_law_told" = some (some (.ref f24))) (l24 : K.lookup f24 = some ⟨oc24, od24, .func (fnOf "_law_told" "_law_told" (q0n (top 37)) (q0j (top 37)) (q0d (top 37)) .none kV24 dc24 pm24 an24 cd24 ct24), sl24⟩) (c24 : codeIn K cd24 "_law_told" = true) (k24 : keepIn K (.ref f24) = true)
  (a25 : nsIn K mainGlobals "law" = some (some (.ref f25))) (l25 : K.lookup f25 = some ⟨oc25, od25, .func (fnOf "law" "law" (q0n (top 38)) (q0j (top 38)) (q0d (top 38)) .none kV25 dc25 pm25 an25 cd25 ct25), sl25⟩) (c25 : codeIn K cd25 "law" = true) (k25 : keepIn K (.ref f25) = true)
  (z0 : nsIn K mainGlobals "isinstance" = some none)
  (z1 : nsIn K mainGlobals "int" = some none)
  (z2 : nsIn K mainGlobals "bool" = some none)
  (z3 : nsIn K mainGlobals "tuple" = some none)
  (z4 : nsIn K mainGlobals "range" = some none)
  (z5 : nsIn K mainGlobals "len" = some none)
  (z6 : nsIn K mainGlobals "enumerate" = some none)
  (z7 : nsIn K mainGlobals "str" = some none)
  (z8 : nsIn K mainGlobals "min" = some none)
  (z9 : nsIn K mainGlobals "sorted" = some none)
  (z10 : nsIn K mainGlobals "set" = some none)
  (z11 : nsIn K mainGlobals "list" = some none)
  {C0 C1 : Addr}
  (xa0 : nsIn K mainGlobals "TalkError" = some (some (.ref C0))) (xg0 : findIn K (.ref C0) "__getattribute__" = some (some (.builtin "BaseException.__getattribute__"))) (xh0 : hasDictIn K C0 = true) (xf0 : findIn K (.ref C0) "__class__" = some (some (.builtin "object.__class__"))) (xm0 : mroIn K C0 (.type "object") = some true)
  (xe0 : excIn K C0 [.type "ValueError", .type "Exception", .type "BaseException", .type "object"] "ValueError.__new__" = true) (xv0 : kitOne K (.ref C0) (.type "ValueError") = some true)
  (xk0_0 : kitOne K (.ref C0) (.ref C0) = some true) (xx0_0 : exmOne K (.ref C0) (.ref C0) = some true)
  (xk0_1 : kitOne K (.ref C0) (.ref C1) = some false)
  (xt0 : findIn K (.ref C0) "__getattr__" = some none) (xb0 : mroIn K C0 (.type "BaseException") = some true)
  (xa1 : nsIn K mainGlobals "NoPlan" = some (some (.ref C1))) (xg1 : findIn K (.ref C1) "__getattribute__" = some (some (.builtin "BaseException.__getattribute__"))) (xh1 : hasDictIn K C1 = true) (xf1 : findIn K (.ref C1) "__class__" = some (some (.builtin "object.__class__"))) (xm1 : mroIn K C1 (.type "object") = some true)
  (xe1 : excIn K C1 [.type "ValueError", .type "Exception", .type "BaseException", .type "object"] "ValueError.__new__" = true) (xv1 : kitOne K (.ref C1) (.type "ValueError") = some true)
  (xk1_0 : kitOne K (.ref C1) (.ref C0) = some true) (xx1_0 : exmOne K (.ref C1) (.ref C0) = some true)
  (xk1_1 : kitOne K (.ref C1) (.ref C1) = some true) (xx1_1 : exmOne K (.ref C1) (.ref C1) = some true)
  (xt1 : findIn K (.ref C1) "__getattr__" = some none) (xb1 : mroIn K C1 (.type "BaseException") = some true)
  (xs0 : specialIn K (.builtin "object.__class__") "__get__" = some (some (.builtin "getset_descriptor.__get__"))) (xs1 : takesIn K (.builtin "object.__class__") = some true)
  {tg0 : _} (g0 : nsIn K mainGlobals "GREATEST_WORD" = some (some (.int 9 tg0)))
  {tg1 : _} (g1 : nsIn K mainGlobals "MOST_ASKS_DEEP" = some (some (.int 12 tg1)))
  {tg2 : _} (g2 : nsIn K mainGlobals "MOST_ASKS" = some (some (.int 300 tg2)))
  {tg3 : _} (g3 : nsIn K mainGlobals "ALL_CARDS" = some (some (.int 255 tg3)))
  {D0 : Addr} {es0 : Array DictEntry} {n0 : Nat} (da0 : nsIn K mainGlobals "OTHER_SIDE" = some (some (.ref D0))) (dl0 : K.lookup D0 = some ⟨.type "dict", none, .dict es0 n0, #[]⟩) (dk0 : KeysLit w.params es0.toList)
  {dt0_0 : _} (dv0_0 : nsIn K D0 "row" = some (some (.str "column" dt0_0)))
  {dt0_1 : _} (dv0_1 : nsIn K D0 "column" = some (some (.str "row" dt0_1)))
  : ∃ fd : FuncData, (∀ (s : Shared) (v : Value), BindsTo s fd ⟨[v], []⟩ [("_law_script", v)]) /\ ∀ base : Heap, K.In base -> base.Ns mainGlobals mg -> FnOk l.prog w K mg base CX0 40 fa fd ["_law_script"] (spS K) := by
 have e := hfa.symm.trans (mg_of X Ns a25)
 cases e
 have S0 := q0h X Ns ok0 a0 l0 c0 k0 λ _ _ _ _ _ _ us hl => by obtain ⟨_, _, rfl, h0⟩ := lnS hl; obtain ⟨_, _, rfl, h1⟩ := lnS h0; obtain ⟨_, _, rfl, h2⟩ := lnS h1; obtain rfl := ln0 h2; rfl
 have S1 := q0h X Ns ok1 a1 l1 c1 k1 λ _ _ _ _ _ _ us hl => by obtain ⟨_, _, rfl, h0⟩ := lnS hl; obtain rfl := ln0 h0; rfl
 have S2 := q0h X Ns ok2 a2 l2 c2 k2 λ _ _ _ _ _ _ us hl => by obtain ⟨_, _, rfl, h0⟩ := lnS hl; obtain ⟨_, _, rfl, h1⟩ := lnS h0; obtain ⟨_, _, rfl, h2⟩ := lnS h1; obtain rfl := ln0 h2; rfl
 have S3 := q0h X Ns ok3 a3 l3 c3 k3 λ _ _ _ _ _ _ us hl => by obtain ⟨_, _, rfl, h0⟩ := lnS hl; obtain ⟨_, _, rfl, h1⟩ := lnS h0; obtain ⟨_, _, rfl, h2⟩ := lnS h1; obtain rfl := ln0 h2; rfl
 have S4 := q0h X Ns ok4 a4 l4 c4 k4 λ _ _ _ _ _ _ us hl => by obtain ⟨_, _, rfl, h0⟩ := lnS hl; obtain ⟨_, _, rfl, h1⟩ := lnS h0; obtain rfl := ln0 h1; rfl
 have S5 := q0h X Ns ok5 a5 l5 c5 k5 λ _ _ _ _ _ _ us hl => by obtain ⟨_, _, rfl, h0⟩ := lnS hl; obtain rfl := ln0 h0; rfl
 have S6 := q0h X Ns ok6 a6 l6 c6 k6 λ _ _ _ _ _ _ us hl => by obtain ⟨_, _, rfl, h0⟩ := lnS hl; obtain ⟨_, _, rfl, h1⟩ := lnS h0; obtain rfl := ln0 h1; rfl
 have S7 := q0h X Ns ok7 a7 l7 c7 k7 λ _ _ _ _ _ _ us hl => by obtain ⟨_, _, rfl, h0⟩ := lnS hl; obtain rfl := ln0 h0; rfl
 have S8 := q0h X Ns ok8 a8 l8 c8 k8 λ _ _ _ _ _ _ us hl => by obtain ⟨_, _, rfl, h0⟩ := lnS hl; obtain rfl := ln0 h0; rfl
 have S9 := q0h X Ns ok9 a9 l9 c9 k9 λ _ _ _ _ _ _ us hl => by obtain ⟨_, _, rfl, h0⟩ := lnS hl; obtain ⟨_, _, rfl, h1⟩ := lnS h0; obtain rfl := ln0 h1; rfl
 have S10 := q0h X Ns ok10 a10 l10 c10 k10 λ _ _ _ _ _ _ us hl => by obtain ⟨_, _, rfl, h0⟩ := lnS hl; obtain ⟨_, _, rfl, h1⟩ := lnS h0; obtain rfl := ln0 h1; rfl
 have S11 := q0h X Ns ok11 a11 l11 c11 k11 λ _ _ _ _ _ _ us hl => by obtain ⟨_, _, rfl, h0⟩ := lnS hl; obtain rfl := ln0 h0; rfl
 have S12 := q0h X Ns ok12 a12 l12 c12 k12 λ _ _ _ _ _ _ us hl => by obtain ⟨_, _, rfl, h0⟩ := lnS hl; obtain rfl := ln0 h0; rfl
 have S13 := q0h X Ns ok13 a13 l13 c13 k13 λ _ _ _ _ _ _ us hl => by obtain ⟨_, _, rfl, h0⟩ := lnS hl; obtain ⟨_, _, rfl, h1⟩ := lnS h0; obtain rfl := ln0 h1; rfl
 have S14 := q0h X Ns ok14 a14 l14 c14 k14 λ _ _ _ _ _ _ us hl => by obtain ⟨_, _, rfl, h0⟩ := lnS hl; obtain ⟨_, _, rfl, h1⟩ := lnS h0; obtain rfl := ln0 h1; rfl
 have S15 := q0h X Ns ok15 a15 l15 c15 k15 λ _ _ _ _ _ _ us hl => by obtain ⟨_, _, rfl, h0⟩ := lnS hl; obtain ⟨_, _, rfl, h1⟩ := lnS h0; obtain ⟨_, _, rfl, h2⟩ := lnS h1; obtain rfl := ln0 h2; rfl
 have S16 := q0h X Ns ok16 a16 l16 c16 k16 λ _ _ _ _ _ _ us hl => by obtain ⟨_, _, rfl, h0⟩ := lnS hl; obtain rfl := ln0 h0; rfl
 have S17 := q0h X Ns ok17 a17 l17 c17 k17 λ _ _ _ _ _ _ us hl => by obtain ⟨_, _, rfl, h0⟩ := lnS hl; obtain ⟨_, _, rfl, h1⟩ := lnS h0; obtain ⟨_, _, rfl, h2⟩ := lnS h1; obtain ⟨_, _, rfl, h3⟩ := lnS h2; obtain rfl := ln0 h3; rfl
 have S18 := q0h X Ns ok18 a18 l18 c18 k18 λ _ _ _ _ _ _ us hl => by obtain ⟨_, _, rfl, h0⟩ := lnS hl; obtain rfl := ln0 h0; rfl
 have S19 := q0h X Ns ok19 a19 l19 c19 k19 λ _ _ _ _ _ _ us hl => by obtain ⟨_, _, rfl, h0⟩ := lnS hl; obtain rfl := ln0 h0; rfl
 have S20 := q0h X Ns ok20 a20 l20 c20 k20 λ _ _ _ _ _ _ us hl => by obtain ⟨_, _, rfl, h0⟩ := lnS hl; obtain ⟨_, _, rfl, h1⟩ := lnS h0; obtain rfl := ln0 h1; rfl
 have S21 := q0h X Ns ok21 a21 l21 c21 k21 λ _ _ _ _ _ _ us hl => by obtain ⟨_, _, rfl, h0⟩ := lnS hl; obtain ⟨_, _, rfl, h1⟩ := lnS h0; obtain ⟨_, _, rfl, h2⟩ := lnS h1; obtain rfl := ln0 h2; rfl
 have S22 := q0h X Ns ok22 a22 l22 c22 k22 λ _ _ _ _ _ _ us hl => by obtain ⟨_, _, rfl, h0⟩ := lnS hl; obtain ⟨_, _, rfl, h1⟩ := lnS h0; obtain ⟨_, _, rfl, h2⟩ := lnS h1; obtain rfl := ln0 h2; rfl
 have S23 := q0h X Ns ok23 a23 l23 c23 k23 λ _ _ _ _ _ _ us hl => by obtain ⟨_, _, rfl, h0⟩ := lnS hl; obtain ⟨_, _, rfl, h1⟩ := lnS h0; obtain rfl := ln0 h1; rfl
 have S24 := q0h X Ns ok24 a24 l24 c24 k24 λ _ _ _ _ _ _ us hl => by obtain ⟨_, _, rfl, h0⟩ := lnS hl; obtain ⟨_, _, rfl, h1⟩ := lnS h0; obtain ⟨_, _, rfl, h2⟩ := lnS h1; obtain rfl := ln0 h2; rfl
 have S25 := q0h X Ns ok25 a25 l25 c25 k25 λ _ _ _ _ _ _ us hl => by obtain ⟨_, _, rfl, h0⟩ := lnS hl; obtain rfl := ln0 h0; rfl
 refine ⟨_, λ s v => .of_eq rfl, λ base _ _ => z0w (T := T) (G := G) (fu := 100) rfl (q0w S0 (q0w S1 (q0w S2 (q0w S3 (q0w S4 (q0w S5 (q0w S6 (q0w S7 (q0w S8 (q0w S9 (q0w S10 (q0w S11 (q0w S12 (q0w S13 (q0w S14 (q0w S15 (q0w S16 (q0w S17 (q0w S18 (q0w S19 (q0w S20 (q0w S21 (q0w S22 (q0w S23 (q0w S24 (q0w S25 z4g)))))))))))))))))))))))))) ?_ ?_ ?_ ?_ (i := 25) rfl rfl S25 z2d⟩
 ·refine List.forall_mem_cons.mpr ⟨mg_none_of X Ns z0, ?_⟩; refine List.forall_mem_cons.mpr ⟨mg_none_of X Ns z1, ?_⟩; refine List.forall_mem_cons.mpr ⟨mg_none_of X Ns z2, ?_⟩; refine List.forall_mem_cons.mpr ⟨mg_none_of X Ns z3, ?_⟩; refine List.forall_mem_cons.mpr ⟨mg_none_of X Ns z4, ?_⟩; refine List.forall_mem_cons.mpr ⟨mg_none_of X Ns z5, ?_⟩; refine List.forall_mem_cons.mpr ⟨mg_none_of X Ns z6, ?_⟩; refine List.forall_mem_cons.mpr ⟨mg_none_of X Ns z7, ?_⟩; refine List.forall_mem_cons.mpr ⟨mg_none_of X Ns z8, ?_⟩; refine List.forall_mem_cons.mpr ⟨mg_none_of X Ns z9, ?_⟩; refine List.forall_mem_cons.mpr ⟨mg_none_of X Ns z10, ?_⟩; refine List.forall_mem_cons.mpr ⟨mg_none_of X Ns z11, ?_⟩; intro x hx; cases hx
 ·refine ⟨q7w ⟨_, mg_of X Ns xa0, ⟨xg0, xt0, xb0, xh0, xf0, xs0, xs1, xm0⟩, ⟨_, _, _, _, PySem.F.excBase_ValueError, xe0⟩, (q3P (mg_of X Ns xa0) ⟨xk0_0, λ _ => xx0_0⟩ (q3P (mg_of X Ns xa1) ⟨xk0_1, λ z => nomatch z⟩ q9u)), xv0⟩ (q7w ⟨_, mg_of X Ns xa1, ⟨xg1, xt1, xb1, xh1, xf1, xs0, xs1, xm1⟩, ⟨_, _, _, _, PySem.F.excBase_ValueError, xe1⟩, (q3P (mg_of X Ns xa0) ⟨xk1_0, λ _ => xx1_0⟩ (q3P (mg_of X Ns xa1) ⟨xk1_1, λ _ => xx1_1⟩ q9u)), xv1⟩ (z2E)), all_cons ⟨_, mg_of X Ns xa0⟩ (all_cons ⟨_, mg_of X Ns xa1⟩ (z2N))⟩
 ·intro x d h
  exact q3M ⟨_, .int _, mg_of X Ns g0, ⟨_, rfl⟩, λ H => q0B.mpr rfl⟩ (q3M ⟨_, .int _, mg_of X Ns g1, ⟨_, rfl⟩, λ H => q0B.mpr rfl⟩ (q3M ⟨_, .int _, mg_of X Ns g2, ⟨_, rfl⟩, λ H => q0B.mpr rfl⟩ (q3M ⟨_, .int _, mg_of X Ns g3, ⟨_, rfl⟩, λ H => q0B.mpr rfl⟩ (z3f)))) x d h
 ·intro x kvs h
  exact z0b ⟨_, _, _, mg_of X Ns da0, dl0, dk0, q6V (by decide) dv0_0 (q6V (by decide) dv0_1 (z2h))⟩ (z2T) x kvs h
end k14
open PySem PySem.W PyProof.Rows
set_option maxRecDepth 100000 in
set_option maxHeartbeats 0 in
theorem PySem.Challenge.cw_talkleast_k14_settled_or_not_holds : PySem.Challenge.rw_talkleast_k14_settled_or_not.Holds := by
 w_on; o_law; k_head; (case hw => w_witness2)
 k_fill
 refine L2.walkE (l := PySem.Challenge.rw_talkleast_k14_settled_or_not) (k := 40) (p := "_law_script") rfl rfl ⟨rfl, by decide, by decide⟩ (λ w h Y => PySem.W.kIn_of Y) ?F
 case F =>
  intro w mg fa h KX G hmg
  refine' k14.all_mk KX G hmg ?a0 ?l0 ?c0 ?k0 ?a1 ?l1 ?c1 ?k1 ?a2 ?l2 ?c2 ?k2 ?a3 ?l3 ?c3 ?k3 ?a4 ?l4 ?c4 ?k4 ?a5 ?l5 ?c5 ?k5 ?a6 ?l6 ?c6 ?k6 ?a7 ?l7 ?c7 ?k7 ?a8 ?l8 ?c8 ?k8 ?a9 ?l9 ?c9 ?k9 ?a10 ?l10 ?c10 ?k10 ?a11 ?l11 ?c11 ?k11 ?a12 ?l12 ?c12 ?k12 ?a13 ?l13 ?c13 ?k13 ?a14 ?l14 ?c14 ?k14 ?a15 ?l15 ?c15 ?k15 ?a16 ?l16 ?c16 ?k16 ?a17 ?l17 ?c17 ?k17 ?a18 ?l18 ?c18 ?k18 ?a19 ?l19 ?c19 ?k19 ?a20 ?l20 ?c20 ?k20 ?a21 ?l21 ?c21 ?k21 ?a22 ?l22 ?c22 ?k22 ?a23 ?l23 ?c23 ?k23 ?a24 ?l24 ?c24 ?k24 ?a25 ?l25 ?c25 ?k25 ?z0 ?z1 ?z2 ?z3 ?z4 ?z5 ?z6 ?z7 ?z8 ?z9 ?z10 ?z11 ?xa0 ?xg0 ?xh0 ?xf0 ?xm0 ?xe0 ?xv0 ?xk0_0 ?xx0_0 ?xk0_1 ?xt0 ?xb0 ?xa1 ?xg1 ?xh1 ?xf1 ?xm1 ?xe1 ?xv1 ?xk1_0 ?xx1_0 ?xk1_1 ?xx1_1 ?xt1 ?xb1 ?xs0 ?xs1 ?ycon0 ?ycon1 ?ycon2 ?ycon3 ?da0 ?dl0 ?dk0 ?dv0_0 ?dv0_1
  (case a0 => k_is); (case l0 => k_is); (case c0 => k_is); (case k0 => k_is)
  (case a1 => k_is); (case l1 => k_is); (case c1 => k_is); (case k1 => k_is)
  (case a2 => k_is); (case l2 => k_is); (case c2 => k_is); (case k2 => k_is)
  (case a3 => k_is); (case l3 => k_is); (case c3 => k_is); (case k3 => k_is)
  (case a4 => k_is); (case l4 => k_is); (case c4 => k_is); (case k4 => k_is)
  (case a5 => k_is); (case l5 => k_is); (case c5 => k_is); (case k5 => k_is)
  (case a6 => k_is); (case l6 => k_is); (case c6 => k_is); (case k6 => k_is)
  (case a7 => k_is); (case l7 => k_is); (case c7 => k_is); (case k7 => k_is)
  (case a8 => k_is); (case l8 => k_is); (case c8 => k_is); (case k8 => k_is)
  (case a9 => k_is); (case l9 => k_is); (case c9 => k_is); (case k9 => k_is)
  (case a10 => k_is); (case l10 => k_is); (case c10 => k_is); (case k10 => k_is)
  (case a11 => k_is); (case l11 => k_is); (case c11 => k_is); (case k11 => k_is)
  (case a12 => k_is); (case l12 => k_is); (case c12 => k_is); (case k12 => k_is)
  (case a13 => k_is); (case l13 => k_is); (case c13 => k_is); (case k13 => k_is)
  (case a14 => k_is); (case l14 => k_is); (case c14 => k_is); (case k14 => k_is)
  (case a15 => k_is); (case l15 => k_is); (case c15 => k_is); (case k15 => k_is)
  (case a16 => k_is); (case l16 => k_is); (case c16 => k_is); (case k16 => k_is)
  (case a17 => k_is); (case l17 => k_is); (case c17 => k_is); (case k17 => k_is)
  (case a18 => k_is); (case l18 => k_is); (case c18 => k_is); (case k18 => k_is)
  (case a19 => k_is); (case l19 => k_is); (case c19 => k_is); (case k19 => k_is)
  (case a20 => k_is); (case l20 => k_is); (case c20 => k_is); (case k20 => k_is)
  (case a21 => k_is); (case l21 => k_is); (case c21 => k_is); (case k21 => k_is)
  (case a22 => k_is); (case l22 => k_is); (case c22 => k_is); (case k22 => k_is)
  (case a23 => k_is); (case l23 => k_is); (case c23 => k_is); (case k23 => k_is)
  (case a24 => k_is); (case l24 => k_is); (case c24 => k_is); (case k24 => k_is)
  (case a25 => k_is); (case l25 => k_is); (case c25 => k_is); (case k25 => k_is)
  (case z0 => k_is)
  (case z1 => k_is)
  (case z2 => k_is)
  (case z3 => k_is)
  (case z4 => k_is)
  (case z5 => k_is)
  (case z6 => k_is)
  (case z7 => k_is)
  (case z8 => k_is)
  (case z9 => k_is)
  (case z10 => k_is)
  (case z11 => k_is)
  (case xa0 => k_is); (case xg0 => k_is); (case xh0 => k_is); (case xf0 => k_is); (case xm0 => k_is); (case xt0 => k_is); (case xb0 => k_is)
  (case xa1 => k_is); (case xg1 => k_is); (case xh1 => k_is); (case xf1 => k_is); (case xm1 => k_is); (case xt1 => k_is); (case xb1 => k_is)
  (case xe0 => kernel_rfl); (case xv0 => kernel_rfl)
  (case xk0_0 => kernel_rfl); (case xx0_0 => kernel_rfl)
  (case xk0_1 => kernel_rfl)
  (case xe1 => kernel_rfl); (case xv1 => kernel_rfl)
  (case xk1_0 => kernel_rfl); (case xx1_0 => kernel_rfl)
  (case xk1_1 => kernel_rfl); (case xx1_1 => kernel_rfl)
  (case xs0 => k_is); (case xs1 => k_is)
  (case ycon0 => k_is)
  (case ycon1 => k_is)
  (case ycon2 => k_is)
  (case ycon3 => k_is)
  (case da0 => k_is); (case dl0 => k_is); (case dk0 => exact ⟨⟨_, _, rfl, rfl⟩, ⟨_, _, rfl, rfl⟩, trivial⟩)
  (case dv0_0 => k_is)
  (case dv0_1 => k_is)
end

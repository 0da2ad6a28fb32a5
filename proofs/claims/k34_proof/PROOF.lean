import PyProof.Rows.All
import Wide.All
import OpenK.AllK
import Wide.FinOn
import Lean
import PyProof.EqAt
import PyProof.EqKinds
import PyProof.TupleCall
import PyProof.ExcAttrAll.ValueError
import PyProof.ZipIter
import PyProof.TupleIter
import PyProof.P3In
import PyProof.Rows.SeqMore2
import PyProof.FactsAll.tuple_3
import PyProof.FactsAll.list_3
import PyProof.Rows.Range3
import KE.KRevIter
import PyProof.Rows.FactsT2
import PySem.Builtin.Int.W1All
import PyProof.SetScanFacts
import PyProof.SetKind
import PyProof.DictKinds
import PyProof.DictStraight
import PyProof.Rows.SetFrom
import PyProof.CollectWalk
import PyProof.Seq
import PyProof.DictIter
import PyProof.Rows.Tup
import PyProof.FactsAll.set_1
import PyProof.FactsAll.set_2
import PyProof.Rows.SortWalk
import PyProof.ConsumeWalk
import PyProof.Rows.SumAny
import PySem.Syntax
import PyProof.DictTable
import PyProof.ListRange
import PyProof.EnumMake
import PySem.Challenge.RW_talkleast_k34_entries_apart
set_option Elab.async false
set_option linter.all false
set_option bootstrap.genMatcherCode false
set_option genSizeOfSpec false
set_option compiler.extract_closed false
set_option maxRecDepth 100000
set_option maxHeartbeats 4000000
section
namespace L2
open PySem PySem.Spec PyProof.Rows
noncomputable abbrev Key := Sum Int Str
noncomputable def z6t : Key -> Value -> Bool
 | .inl k, v => Value.isInt k v
 | .inr x, v => Value.isStrOf x v
noncomputable def keyH (w : World) : Key -> Int
 | .inl k => hashInt k
 | .inr x => hashStr w x
theorem q0Q : ∀ {k : Key} {v : Value}, z6t k v = true -> (∃ i t, k = Sum.inl i /\ v = Value.int i t) \/ (∃ x t, k = Sum.inr x /\ v = Value.str x t)
 | .inl i, v, h => by
  obtain ⟨t, e⟩ := Value.isInt_shape (k := i) (v := v) h
  exact .inl ⟨i, t, rfl, e⟩
 | .inr x, v, h => by
  obtain ⟨t, e⟩ := Value.isStrOf_shape (x := x) (v := v) h
  exact .inr ⟨x, t, rfl, e⟩
theorem z5o (a b : Int) : decide ((Sum.inl a : Key) = Sum.inl b) = (a == b) := by
 by_cases e : a = b
 ·subst e; simp
 ·have h : ¬ (Sum.inl a : Key) = Sum.inl b := λ q => e (Sum.inl.inj q)
  rw [decide_eq_false h]
  exact (beq_eq_false_iff_ne.mpr e).symm
theorem z6N (a b : Str) : decide ((Sum.inr a : Key) = Sum.inr b) = decide (a = b) := by
 by_cases e : a = b
 ·subst e; simp
 ·have h : ¬ (Sum.inr a : Key) = Sum.inr b := λ q => e (Sum.inr.inj q)
  rw [decide_eq_false h, decide_eq_false e]
theorem z5i (a : Int) (b : Str) : decide ((Sum.inl a : Key) = Sum.inr b) = false := decide_eq_false (λ q => nomatch q)
theorem z6M (a : Str) (b : Int) : decide ((Sum.inr a : Key) = Sum.inl b) = false := decide_eq_false (λ q => nomatch q)
noncomputable def q6Q (prog : Program) (w : World) : PySem.KeyKind prog w Key where
 is := z6t
 hash := keyH w
 inj := λ v a b ha hb => by
  rcases q0Q ha with ⟨i, t, rfl, rfl⟩ | ⟨x, t, rfl, rfl⟩
  ·rcases q0Q hb with ⟨j, u, rfl, e⟩ | ⟨y, u, rfl, e⟩
   ·injection e with e1 _; rw [e1]
   ·exact nomatch e
  ·rcases q0Q hb with ⟨j, u, rfl, e⟩ | ⟨y, u, rfl, e⟩
   ·exact nomatch e
   ·injection e with e1 _; rw [e1]
 byValue := λ k v h => by
  rcases q0Q h with ⟨i, t, rfl, rfl⟩ | ⟨x, t, rfl, rfl⟩ <;> rfl
 pyHash := λ hv h => by
  rcases q0Q hv with ⟨i, t, rfl, rfl⟩ | ⟨x, t, rfl, rfl⟩
  ·exact wpAny_pyHash_int h
  ·exact wpAny_pyHash_str h
 eqBool := λ hu hv h => by
  rcases q0Q hu with ⟨i, t, rfl, rfl⟩ | ⟨x, t, rfl, rfl⟩
  ·rcases q0Q hv with ⟨j, u, rfl, rfl⟩ | ⟨y, u, rfl, rfl⟩
   ·rw [z5o] at h; exact wpAny_eqBool_int h
   ·rw [z5i] at h; exact SeqAt.EqAt.int_str i t y u _ _ _ _ h
  ·rcases q0Q hv with ⟨j, u, rfl, rfl⟩ | ⟨y, u, rfl, rfl⟩
   ·rw [z6M] at h; exact SeqAt.EqAt.str_int x t j u _ _ _ _ h
   ·rw [z6N] at h; exact wpAny_eqBool_str h
 «strs» := λ k x t v h => by
  rcases q0Q h with ⟨i, u, rfl, e⟩ | ⟨y, u, rfl, e⟩
  ·exact nomatch e
  ·injection e with e1 _
   subst e1
   cases v <;> rfl
end L2
namespace L2
open PySem PySem.Spec PyProof.Rows
inductive V where
 | non | bl (b : Bool) | int (i : Int) | str (x : Str) | byt (b : Array UInt8) | flt (b : UInt64) | ref (a : Addr) | ty (n : String)
 deriving DecidableEq
noncomputable def RelV : V -> Value -> Prop
 | .non, u => u = Value.none
 | .bl b, u => u = Value.bool b
 | .int i, u => ∃ t, u = Value.int i t
 | .str x, u => ∃ t, u = Value.str x t
 | .byt b, u => ∃ t, u = Value.bytes b t
 | .flt b, u => ∃ t, u = Value.float b t
 | .ref a, u => u = Value.ref a
 | .ty n, u => u = Value.type n
noncomputable abbrev Vals : List V -> List Value -> Prop := Paired RelV
theorem Vals.length {xs : List V} {us : List Value} (r : Vals xs us) : xs.length = us.length := Paired.length r
theorem Vals.get : ∀ {xs : List V} {us : List Value} {i : Nat} {x : V}, Vals xs us -> xs[i]? = some x -> ∃ u, us[i]? = some u /\ RelV x u
 | _, _, _, _, .nil, e => by simp at e
 | _, _, 0, _, .cons r _, e => by simp at e; subst e; exact ⟨_, rfl, r⟩
 | _, _, i + 1, x, .cons _ t, e => by
  obtain ⟨u, h1, h2⟩ := Vals.get (i := i) (x := x) t (by simpa using e)
  exact ⟨u, by simpa using h1, h2⟩
theorem Vals.set {x : V} {u : Value} (r : RelV x u) : ∀ {xs : List V} {us : List Value} (i : Nat), Vals xs us -> Vals (xs.set i x) (us.set i u)
 | _, _, _, .nil => .nil
 | _, _, 0, .cons _ t => .cons r t
 | _, _, i + 1, .cons q t => .cons q (Vals.set r i t)
theorem Vals.append : ∀ {xs ys : List V} {us ws : List Value}, Vals xs us -> Vals ys ws -> Vals (xs ++ ys) (us ++ ws)
 | _, _, _, _, .nil, s => s
 | _, _, _, _, .cons r t, s => .cons r (Vals.append t s)
theorem Vals.take : ∀ {xs : List V} {us : List Value} (n : Nat), Vals xs us -> Vals (xs.take n) (us.take n)
 | _, _, 0, _ => .nil
 | _, _, _ + 1, .nil => .nil
 | _, _, n + 1, .cons r t => .cons r (Vals.take n t)
theorem Vals.drop : ∀ {xs : List V} {us : List Value} (n : Nat), Vals xs us -> Vals (xs.drop n) (us.drop n)
 | _, _, 0, r => r
 | _, _, _ + 1, .nil => .nil
 | _, _, n + 1, .cons _ t => Vals.drop n t
noncomputable def RelO : Option V -> Option Value -> Prop
 | some v, some u => RelV v u
 | none, none => True
 | _, _ => False
noncomputable def KV {κ : Type} : List (κ × V) -> List (κ × Value) -> Prop := Paired λ (p : κ × V) (q : κ × Value) => p.1 = q.1 /\ RelV p.2 q.2
noncomputable def kV : Key -> V
 | .inl i => .int i
 | .inr x => .str x
inductive HO where
 | lst (xs : List V)
 | tup (xs : List V)
 | dK (kvs : List (Key × V)) | dT (kvs : List (List Key × V))
 | set (S : Int -> Bool) (n : Nat)
 | ins (C dx : Addr) (fs : List (Str × V))
 | own (x : Addr)
 | xd (fs : List (Str × V))
 | met (f x : Addr)
 | rng (lo hi : Int)
 | frz (o : Obj) (u : HO)
 | tbl (ps : Array Value)
 | ext (φ : Heap -> Prop)
noncomputable abbrev Hp := Addr -> Option HO
noncomputable def upd (H : Hp) (a : Addr) (o : HO) : Hp := λ b => if b = a then some o else H b
theorem q0T {H : Hp} {a : Addr} {o : HO} : upd H a o a = some o := by unfold upd; rw [if_pos rfl]
theorem q0x {H : Hp} {a b : Addr} {o : HO} (h : b ≠ a) : upd H a o b = H b := by unfold upd; rw [if_neg h]
theorem q0v {H : Hp} {a b : Addr} {o : HO} (h : H a = some o) (h' : H b = none) : a ≠ b := by
 intro e; subst e; rw [h] at h'; cases h'
noncomputable def q3k (h : Heap) (a : Addr) (items : Array Value) : Prop := ∃ o, h.get? a = some o /\ (o.cls = .type "tuple" /\ o.dict = none) /\ ∃ n, o.data = .seq items n
theorem q3k.tup {h : Heap} {a items} (x : q3k h a items) : IsTup h a items := let ⟨o, ho, hc, r⟩ := x; ⟨o, ho, hc.1, r⟩
theorem q3k.lt {h : Heap} {a items} (x : q3k h a items) : a < h.objs.size := let ⟨_, ho, _⟩ := x; Heap.lt_size ho
theorem q3k.new (h : Heap) (items : Array Value) : q3k (h.push { cls := .type "tuple", data := .seq items }) h.objs.size items := ⟨_, Heap.get?_push_size _ rfl, ⟨rfl, rfl⟩, _, rfl⟩
section
variable (P : Program) (w : World)
noncomputable def q1v (H : Hp) (h : Heap) (a : Addr) : HO -> Prop
 | .lst xs => xs.length <= sizeLine /\ ∃ (its : List Value) (n : Nat), Vals xs its /\ h.get? a = some { cls := .type "list", data := .seq its.toArray n }
 | .tup xs => xs.length <= sizeLine /\ ∃ its : List Value, Vals xs its /\ q3k h a its.toArray
 | .dK kvs => kvs.length <= sizeLine /\ (a == sysModules) = false /\ ∃ vs, KV kvs vs /\ h.DictOf (q6Q P w) a vs
 | .dT kvs => kvs.length <= sizeLine /\ (a == sysModules) = false /\ ∃ xs : List (List Key × Addr × Value),
   Paired (λ (p : List Key × V) (q : List Key × Addr × Value) => p.1 = q.1 /\ H q.2.1 = some (.tup (p.1.map kV)) /\ RelV p.2 q.2.2) kvs xs /\
   ∃ o es ep, h.get? a = some o /\ o.ExactDict /\ o.data = .dict es ep /\ es.toList = xs.map (entryOfKey (tupleKind (q6Q P w))) /\ (xs.map (·.1)).Nodup
 | .set S n => h.SetOf (intKind P w) a S n
 | .ins C dx fs => H dx = some (.own a) /\ fs.length <= 1000 /\ dx ≠ a /\ h.get? a = some (PySem.W.instObj C dx) /\
   ∃ mA, h.Ns1 dx mA /\ (∀ f, RelO (fs.lookup f) (mA f)) /\ PySem.Within mA (fs.map (·.1))
 | .own _ => ∃ o, h.get? a = some o
 | .xd fs => ∃ mA, h.Ns1 a mA /\ ∀ f, RelO (fs.lookup f) (mA f)
 | .rng lo hi => ∃ t u v, h.get? a = some { cls := .type "range", data := .fields #[.int lo t, .int hi u, .int 1 v] }
 | .frz o u => h.get? a = some o /\ q1v H h a u
 | .tbl ps => h.get? a = some { cls := .none, data := .fields ps }
 | .met f x => h.get? a = some (PySem.W.methodObj (.ref f) (.ref x))
 | .ext φ => φ h /\ (∃ o, h.get? a = some o) /\ ∀ h1 h2 : Heap, φ h1 -> (∀ o, h1.get? a = some o -> h2.get? a = some o) -> φ h2
noncomputable def HOk (H : Hp) (h : Heap) : Prop := ∀ a o, H a = some o -> q1v P w H h a o
end
section
variable {P : Program} {w : World} {H H' : Hp} {h h' : Heap} {a : Addr} {o : HO}
theorem q1v.lt (x : q1v P w H h a o) : a < h.objs.size := by
 cases o with
 | lst xs => obtain ⟨_, _, _, _, e⟩ := x; exact Heap.lt_size e
 | tup xs => obtain ⟨_, _, _, p⟩ := x; exact p.lt
 | dK kvs => obtain ⟨_, _, _, _, o, _, _, e, _⟩ := x; exact Heap.lt_size e
 | dT kvs => obtain ⟨_, _, _, _, o, _, _, e, _⟩ := x; exact Heap.lt_size e
 | set S n => obtain ⟨o, _, _, _, e, _⟩ := x; exact Heap.lt_size e
 | ins C dx fs => obtain ⟨_, _, _, e, _⟩ := x; exact Heap.lt_size e
 | own y => obtain ⟨_, e⟩ := x; exact Heap.lt_size e
 | xd fs => obtain ⟨_, ⟨_, _, _, e, _⟩, _⟩ := x; exact Heap.lt_size e
 | rng lo hi => obtain ⟨_, _, _, e⟩ := x; exact Heap.lt_size e
 | frz ob u => obtain ⟨e, _⟩ := x; exact Heap.lt_size e
 | tbl ps => exact Heap.lt_size (show h.get? a = some _ from x)
 | met f y => exact Heap.lt_size (show h.get? a = some _ from x)
 | ext φ => obtain ⟨_, ⟨_, e⟩, _⟩ := x; exact Heap.lt_size e
theorem Paired.mapP {α β : Type} {F G : α -> β -> Prop} : ∀ {l₁ : List α} {l₂ : List β}, Paired F l₁ l₂ -> (∀ a b, F a b -> G a b) -> Paired G l₁ l₂
 | _, _, .nil, _ => .nil
 | _, _, .cons r t, f => .cons (f _ _ r) (Paired.mapP t f)
theorem q1v.stay (x : q1v P w H h a o) (k : ∀ b u, (b = a \/ H b = some (.own a)) -> h.get? b = some u -> h'.get? b = some u)
  (ho : ∀ b, H b = some (.own a) -> H' b = some (.own a)) (ht : ∀ b xs, H b = some (.tup xs) -> H' b = some (.tup xs)) : q1v P w H' h' a o := by
 induction o with
 | lst xs => obtain ⟨z, its, n, r, e⟩ := x; exact ⟨z, its, n, r, k _ _ (.inl rfl) e⟩
 | tup xs => obtain ⟨z, its, r, ob, e, c⟩ := x; exact ⟨z, its, r, ob, k _ _ (.inl rfl) e, c⟩
 | dK kvs => obtain ⟨z, y, vs, r, ob, es, ep, e, c⟩ := x; exact ⟨z, y, vs, r, ob, es, ep, k _ _ (.inl rfl) e, c⟩
 | dT kvs =>
  obtain ⟨z, y, xs, r, ob, es, ep, e, c⟩ := x
  exact ⟨z, y, xs, Paired.mapP r λ p q z => ⟨z.1, ht _ _ z.2.1, z.2.2⟩, ob, es, ep, k _ _ (.inl rfl) e, c⟩
 | set S n => obtain ⟨ob, es, ep, t, e, c⟩ := x; exact ⟨ob, es, ep, t, k _ _ (.inl rfl) e, c⟩
 | ins C dx fs =>
  obtain ⟨d, z, ne, e, mA, ⟨od, es, ep, e2, c⟩, r⟩ := x
  exact ⟨ho _ d, z, ne, k _ _ (.inl rfl) e, mA, ⟨od, es, ep, k _ _ (.inr d) e2, c⟩, r⟩
 | own y => obtain ⟨ob, e⟩ := x; exact ⟨ob, k _ _ (.inl rfl) e⟩
 | xd fs => obtain ⟨mA, ⟨od, es, ep, e, c⟩, r⟩ := x; exact ⟨mA, ⟨od, es, ep, k _ _ (.inl rfl) e, c⟩, r⟩
 | rng lo hi => obtain ⟨t, u, v, e⟩ := x; exact ⟨t, u, v, k _ _ (.inl rfl) e⟩
 | frz ob u ih => obtain ⟨e, q⟩ := x; exact ⟨k _ _ (.inl rfl) e, ih q⟩
 | tbl ps =>
  have e : h.get? a = some { cls := .none, data := .fields ps } := x
  show h'.get? a = some { cls := .none, data := .fields ps }
  exact k a _ (.inl rfl) e
 | met f y =>
  have e : h.get? a = some (PySem.W.methodObj (.ref f) (.ref y)) := x
  show h'.get? a = some (PySem.W.methodObj (.ref f) (.ref y))
  exact k a _ (.inl rfl) e
 | ext φ => obtain ⟨p, ⟨o, e⟩, st⟩ := x; exact ⟨st _ _ p λ o q => k _ _ (.inl rfl) q, ⟨o, k _ _ (.inl rfl) e⟩, st⟩
theorem HOk.lt (x : HOk P w H h) (e : H a = some o) : a < h.objs.size := (x a o e).lt
theorem HOk.fresh (x : HOk P w H h) (e : h.objs.size <= a) : H a = none := by
 cases q : H a with
 | none => rfl
 | some u => exact absurd (Nat.lt_of_lt_of_le (x.lt q) e) (Nat.lt_irrefl _)
theorem HOk.kept (x : HOk P w H h) (k : ∀ b u, h.get? b = some u -> h'.get? b = some u) : HOk P w H h' := λ a o e =>
 (x a o e).stay (λ b u _ q => k b u q) (λ _ q => q) λ _ _ q => q
theorem HOk.laid (x : HOk P w H h) (k : ∀ b u, h.get? b = some u -> h'.get? b = some u) (hp : h.objs.size <= a) (new : q1v P w (upd H a o) h' a o) : HOk P w (upd H a o) h' := λ b u e => by
 have hn := x.fresh hp
 by_cases hb : b = a
 ·subst hb; rw [q0T] at e; cases e; exact new
 ·rw [q0x hb] at e
  exact (x b u e).stay (λ c v _ q => k c v q) (λ c q => by rw [q0x (q0v q hn)]; exact q) λ c xs q => by rw [q0x (q0v q hn)]; exact q
end
noncomputable def Rd (H : Hp) (a : Addr) (u : HO) : Prop := H a = some u \/ ∃ o, H a = some (.frz o u)
theorem Rd.ok {P : Program} {w : World} {H : Hp} {h : Heap} {a : Addr} {u : HO} (r : Rd H a u) (x : HOk P w H h) : q1v P w H h a u := by
 rcases r with r | ⟨o, r⟩
 ·exact x a u r
 ·obtain ⟨_, q⟩ := x a _ r
  exact q
noncomputable def Mut : Option HO -> Prop
 | some (.lst _) => True
 | some (.dK _) => True
 | some (.dT _) => True
 | some (.set _ _) => True
 | some (.ins _ _ _) => True
 | some (.ext _) => True
 | _ => False
section
variable {P : Program} {w : World} {H : Hp} {h h' : Heap} {x e : Addr} {o' : HO}
theorem HOk.write (ok : HOk P w H h) (mu : Mut (H x)) (he : e = x \/ H e = some (.own x)) (k : ∀ b u, b ≠ e -> h.get? b = some u -> h'.get? b = some u) (heo : ∃ u, h'.get? e = some u)
  (new : q1v P w (upd H x o') h' x o') : HOk P w (upd H x o') h' := λ b u q => by
 have nown : ∀ c y, H c = some (.own y) -> c ≠ x := λ c y r z => by subst z; rw [r] at mu; exact mu
 have ntup : ∀ c xs, H c = some (.tup xs) -> c ≠ x := λ c xs r z => by subst z; rw [r] at mu; exact mu
 by_cases hb : b = x
 ·subst hb; rw [q0T] at q; cases q; exact new
 ·rw [q0x hb] at q
  by_cases hbe : b = e
  ·have q' : H b = some (.own x) := by
    rcases he with z | z
    ·exact absurd (hbe.trans z) hb
    ·rw [hbe]; exact z
   rw [q] at q'; cases q'
   obtain ⟨v, hv⟩ := heo
   exact ⟨v, by rw [hbe]; exact hv⟩
  ·refine (ok b u q).stay (λ c v hc r => k c v ?_ r) (λ c r => by rw [q0x (nown c b r)]; exact r) λ c xs r => by rw [q0x (ntup c xs r)]; exact r
   rcases hc with rfl | hc
   ·exact hbe
   ·rintro rfl
    rcases he with z | z
    ·exact nown c b hc z
    ·rw [hc] at z; cases z; exact hb rfl
end
structure Un (fs ex : List Addr) (H H' : Hp) (h h' : Heap) : Prop where
 keep : ∀ b o, h.get? b = some o -> H b = none -> b ∉ fs -> b ∉ ex -> h'.get? b = some o
 slot : ∀ b o, h.get? b = some o -> H b = none -> b ∈ fs -> b ∉ ex -> ∃ sl, h'.get? b = some { o with slots := sl }
 free : ∀ b o, h.get? b = some o -> H b = none -> b ∉ ex -> H' b = none
 there : ∀ b o, h.get? b = some o -> b ∉ ex -> ∃ o', h'.get? b = some o'
 tups : ∀ b xs, H b = some (.tup xs) -> H' b = some (.tup xs)
 frzs : ∀ b o u, H b = some (.frz o u) -> H' b = some (.frz o u)
 tbls : ∀ b ps, H b = some (.tbl ps) -> ∃ more, H' b = some (.tbl (ps ++ more))
section
variable {fs fs' ex ex' : List Addr} {H H1 H2 : Hp} {h h1 h2 h' : Heap} {a x e : Addr} {o : HO}
theorem Un.any (u : Un fs ex H H1 h h1) {b : Addr} {ob : Obj} (q : h.get? b = some ob) (n : H b = none) (hx : b ∉ ex) : ∃ sl, h1.get? b = some { ob with slots := sl } := by
 by_cases hb : b ∈ fs
 ·exact u.slot b ob q n hb hx
 ·exact ⟨ob.slots, u.keep b ob q n hb hx⟩
theorem Un.kept (k : ∀ b u, h.get? b = some u -> h'.get? b = some u) : Un fs ex H H h h' :=
 ⟨λ b ob q _ _ _ => k b ob q, λ b ob q _ _ _ => ⟨ob.slots, k b ob q⟩, λ _ _ _ n _ => n, λ b ob q _ => ⟨ob, k b ob q⟩, λ _ _ q => q, λ _ _ _ q => q, λ _ ps q => ⟨#[], by rw [q]; simp⟩⟩
theorem Un.refl : Un fs ex H H h h := Un.kept λ _ _ q => q
theorem Un.laid (k : ∀ b u, h.get? b = some u -> h'.get? b = some u) (hp : h.objs.size <= a) (hn : H a = none) : Un fs ex H (upd H a o) h h' where
 keep := λ b u q _ _ _ => k b u q
 slot := λ b u q _ _ _ => ⟨u.slots, k b u q⟩
 free := λ b u q n _ => by rw [q0x (Nat.ne_of_lt (Nat.lt_of_lt_of_le (Heap.lt_size q) hp))]; exact n
 there := λ b u q _ => ⟨u, k b u q⟩
 tups := λ b xs q => by rw [q0x (q0v q hn)]; exact q
 frzs := λ b u xs q => by rw [q0x (q0v q hn)]; exact q
 tbls := λ b ps q => ⟨#[], by rw [q0x (q0v q hn), q]; simp⟩
theorem Un.write (mu : Mut (H x)) (he : e = x \/ H e = some (.own x)) (k : ∀ b u, b ≠ e -> h.get? b = some u -> h'.get? b = some u) (heo : ∃ u, h'.get? e = some u) : Un fs ex H (upd H x o) h h' := by
 have hx : ∀ b, H b = none -> b ≠ x := λ b n z => by subst z; rw [n] at mu; exact mu
 have hb : ∀ b, H b = none -> b ≠ e := λ b n z => by
  subst z
  rcases he with r | r
  ·exact hx b n r
  ·rw [n] at r; cases r
 have hm : ∀ b u, H b = some u -> ¬ Mut (some u) -> b ≠ x := λ b u q nm z => by subst z; rw [q] at mu; exact nm mu
 refine ⟨λ b u q n _ _ => k b u (hb b n) q, λ b u q n _ _ => ⟨u.slots, k b u (hb b n) q⟩, λ b u q n _ => by rw [q0x (hx b n)]; exact n, λ b u q _ => ?_,
  λ b xs q => by rw [q0x (hm b _ q λ z => z)]; exact q, λ b u xs q => by rw [q0x (hm b _ q λ z => z)]; exact q, λ b ps q => ⟨#[], by rw [q0x (hm b _ q λ z => z), q]; simp⟩⟩
 by_cases hbe : b = e
 ·subst hbe; exact heo
 ·exact ⟨u, k b u hbe q⟩
end
noncomputable def trk (h : Heap) (H : Hp) : List Addr := (List.range h.objs.size).filter λ a => (H a).isSome
noncomputable def hidT (h : Heap) (H : Hp) : Heap := PySem.W.hideAll h (trk h H)
theorem q9X (h : Heap) (H : Hp) : (hidT h H).objs.size = h.objs.size := PySem.W.hideAll_size _ _
theorem z0Z {h : Heap} {H : Hp} {b : Addr} {o : Obj} (e : h.get? b = some o) (n : H b = none) : (hidT h H).get? b = some o :=
 PySem.W.hideAll_get _ e λ hm => by
  have q : (H b).isSome = true := (List.mem_filter.mp hm).2
  rw [n] at q; simp at q
theorem z4D {h : Heap} {H : Hp} {b : Addr} {o : Obj} (e : (hidT h H).get? b = some o) : h.get? b = some o /\ H b = none := by
 have e' : h.get? b = some o := PySem.W.of_hideAll (trk h H) e
 refine ⟨e', ?_⟩
 cases q : H b with
 | none => rfl
 | some x =>
  have hm : b ∈ trk h H := List.mem_filter.mpr ⟨List.mem_range.mpr (Heap.lt_size e'), by simp [q]⟩
  have z : (hidT h H).get? b = none := PySem.W.hideAll_none (trk h H) hm
  rw [z] at e; cases e
noncomputable def z4E (g h : Heap) (L : Addr) : List (Addr × Obj) := (List.range h.objs.size).filterMap λ a => if a = L \/ (g.get? a).isSome = true then none else (h.get? a).map λ o => (a, o)
noncomputable def rest (g h : Heap) (L d : Addr) : List (Addr × Obj) := (z4E g h L).filter λ p => decide (p.1 ≠ d)
end L2
namespace L2
open PySem PySem.Spec PyProof.Rows
structure Mod (K : PySem.W.Frag) (mg : Str -> Option Value) (base : Heap) : Prop where
 kin : K.In base
 glob : base.Ns mainGlobals mg
 blt : ∃ mb, base.Ns builtinsNs mb /\ ∀ x : Str, x ≠ "__name__" -> mb x = bootBuiltins x
 nolimit : base.NoLimit
structure Cx where
 prog : Program
 w : World
 K : PySem.W.Frag
 mg : Str -> Option Value
 base : Heap
 A : Around
 N : List Str
 s₀ : Shared
 H₀ : Hp
 env : Env
 outer : List Env
 stack : List Env
 ex : List Addr
 fn : Str -> Bool
 calm : Bool
 pn : List (Addr × Obj)
 xe : Value -> Shared -> Prop
noncomputable def frs (l : List Env) : List Addr := l.filterMap (·.frame)
noncomputable abbrev Cx.fs (X : Cx) : List Addr := frs X.outer
noncomputable def Vis (sc : Scope) (x : Str) : Prop := sc.names.lookup x = some .local \/ sc.names.lookup x = some .cell \/ sc.names.lookup x = some .free
noncomputable def Loc (sc : Scope) (x : Str) : Prop := sc.names.lookup x = some .local \/ sc.names.lookup x = some .cell
noncomputable def Look (env : Env) (h : Heap) (m : Str -> Option Value) (x : Str) (u : Value) : Prop :=
 (env.kindOf x = some .local /\ m x = some u) \/ ((env.kindOf x = some .cell \/ env.kindOf x = some .free) /\ ∃ c, env.cells.lookup x = some c /\ h.IsCell c (some u))
structure Cx.Ok (X : Cx) : Prop where
 mod : Mod X.K X.mg X.base
 kind : X.env.scope.kind = .function
 glob : X.env.globals = mainGlobals
 blt : X.env.builtins = builtinsNs
 above : X.s₀.heap.objs.size <= X.env.locals
 inj : ∀ x y c, X.env.cells.lookup x = some c -> X.env.cells.lookup y = some c -> x = y
 has : ∀ x, (X.env.kindOf x = some .cell \/ X.env.kindOf x = some .free) -> ∃ c, X.env.cells.lookup x = some c
 cab : ∀ x c, X.fn x = true -> X.env.cells.lookup x = some c -> X.s₀.heap.objs.size <= c
 hd : X.calm = true -> X.A.handled = none
 frames : X.A.frames = some X.stack
 stk : X.stack = X.outer \/ (X.stack = X.env :: X.outer /\ X.env.frame = some X.env.locals)
 exf : ∀ b ∈ X.ex, b ≠ X.env.locals /\ ∀ x c, X.env.cells.lookup x = some c -> c ≠ b
 bs : ∀ b o, X.base.get? b = some o -> X.s₀.heap.get? b = some o /\ X.H₀ b = none
 bsz : X.base.objs.size <= X.s₀.heap.objs.size
 noex : ∀ b o, X.base.get? b = some o -> b ∉ X.ex
 exfs : ∀ b ∈ X.ex, b ∉ X.fs
 funs : X.s₀.heap.FunFrames X.base X.outer
 frf : ∀ b ∈ X.fs, X.H₀ b = none
structure Inv (X : Cx) (pins : List (Addr × Obj)) (σ : List (Option V)) (H : Hp) (s : Shared) : Prop where
 ok : X.Ok
 os : s.os = X.s₀.os
 bare : AllBare s.gens
 base : Un X.fs X.ex X.H₀ H X.s₀.heap s.heap
 loc : ∃ m, s.heap.Ns X.env.locals m /\ ∀ (i : Nat) (x : Str) (v : V), X.N[i]? = some x -> σ[i]? = some (some v) -> Vis X.env.scope x -> ∃ u, RelV v u /\ Look X.env s.heap m x u
 cell : ∀ x c, X.env.cells.lookup x = some c -> ∃ v, s.heap.IsCell c v
 free : H X.env.locals = none
 freeC : ∀ x c, X.env.cells.lookup x = some c -> H c = none
 pin : ∀ p ∈ X.pn ++ pins, s.heap.get? p.1 = some p.2 /\ H p.1 = none /\ p.1 ≠ X.env.locals /\ p.1 ∉ X.fs /\ ∀ v, p.2.data ≠ .cell v
 hok : HOk X.prog X.w H s.heap
 len : σ.length = X.N.length
section
variable {X : Cx} {pins : List (Addr × Obj)} {σ : List (Option V)} {H H' : Hp} {s : Shared} {h' : Heap}
theorem Cx.Ok.nofr (ok : X.Ok) {b : Addr} {o : Obj} (e : X.base.get? b = some o) : b ∉ X.fs := λ hb => by
 have := (ok.funs.mem hb).1
 rw [e] at this; cases this
theorem Inv.bs (I : Inv X pins σ H s) : ∀ b o, X.base.get? b = some o -> s.heap.get? b = some o /\ H b = none := λ b o e =>
 ⟨I.base.keep b o (I.ok.bs b o e).1 (I.ok.bs b o e).2 (I.ok.nofr e) (I.ok.noex b o e), I.base.free b o (I.ok.bs b o e).1 (I.ok.bs b o e).2 (I.ok.noex b o e)⟩
theorem Inv.bk (I : Inv X pins σ H s) : ∀ b o, X.base.get? b = some o -> s.heap.get? b = some o := λ b o e => (I.bs b o e).1
theorem Inv.mod (I : Inv X pins σ H s) : Mod X.K X.mg X.base := I.ok.mod
theorem Inv.kIn (I : Inv X pins σ H s) : X.K.In s.heap := I.ok.mod.kin.keeps I.bk
theorem Inv.lt (I : Inv X pins σ H s) : X.env.locals < s.heap.objs.size := let ⟨_, hn, _⟩ := I.loc; hn.lt
theorem Inv.sz (I : Inv X pins σ H s) : X.s₀.heap.objs.size <= s.heap.objs.size := Nat.le_trans I.ok.above (Nat.le_of_lt I.lt)
theorem Inv.nofs (I : Inv X pins σ H s) {a : Addr} (h : s.heap.objs.size <= a) : a ∉ X.fs := λ hb => by
 obtain ⟨_, o, ho, _⟩ := I.ok.funs.mem hb
 exact absurd (Nat.lt_of_lt_of_le (Heap.lt_size ho) (Nat.le_trans I.sz h)) (Nat.lt_irrefl _)
theorem Inv.cne (I : Inv X pins σ H s) : ∀ x c, X.env.cells.lookup x = some c -> c ≠ X.env.locals := λ x c e z => by
 obtain ⟨v, o, ho, hd⟩ := I.cell x c e
 obtain ⟨m, ⟨o', es, ep, ho', hd', _⟩, _⟩ := I.loc
 rw [z, ho'] at ho; cases ho; rw [hd'] at hd; cases hd
theorem Inv.funs (I : Inv X pins σ H s) : s.heap.FunFrames X.base X.outer := by
 have all : ∀ (l : List Env), (∀ b ∈ frs l, b ∈ X.fs) -> X.s₀.heap.FunFrames X.base l -> s.heap.FunFrames X.base l := by
  intro l
  induction l with
  | nil => intro _ _; trivial
  | cons env r ih =>
   intro hs hl
   obtain ⟨hk, ⟨L, o, hf, hn, ho, hd⟩, hr⟩ := hl
   have hL : L ∈ X.fs := hs L (by unfold frs; rw [List.filterMap_cons, hf]; exact List.mem_cons_self)
   obtain ⟨sl, e⟩ := I.base.slot L o ho (I.ok.frf L hL) hL λ z => I.ok.exfs L z hL
   exact ⟨hk, ⟨L, _, hf, hn, e, hd⟩, ih (λ b hb => hs b (by unfold frs; rw [List.filterMap_cons, hf]; exact List.mem_cons_of_mem _ hb)) hr⟩
 exact all X.outer (λ _ hb => hb) I.ok.funs
theorem Inv.stack (I : Inv X pins σ H s) : s.heap.FunFrames X.base X.stack := by
 rcases I.ok.stk with e | ⟨e, hf⟩
 ·rw [e]; exact I.funs
 ·rw [e]
  obtain ⟨m, hn, _⟩ := I.loc
  refine .cons (by rw [I.ok.kind]; decide) hf hn ?_ I.funs
  exact Heap.get?_none_of_le (Nat.le_trans I.ok.bsz I.ok.above)
theorem Inv.stkSub (I : Inv X pins σ H s) : ∀ b ∈ frs X.stack, b ∈ X.env.locals :: X.fs := λ b hb => by
 rcases I.ok.stk with e | ⟨e, hf⟩
 ·rw [e] at hb; exact List.mem_cons_of_mem _ hb
 ·rw [e] at hb
  unfold frs at hb
  rw [List.filterMap_cons, hf] at hb
  exact hb
theorem Inv.stkFree (I : Inv X pins σ H s) : ∀ b ∈ frs X.stack, H b = none := λ b hb => by
 rcases List.mem_cons.mp (I.stkSub b hb) with e | hb
 ·rw [e]; exact I.free
 ·obtain ⟨_, o, ho, _⟩ := I.ok.funs.mem hb
  exact I.base.free b o ho (I.ok.frf b hb) λ z => I.ok.exfs b z hb
theorem Inv.step {g' : Array GenState} {t' : Nat} {d' : Drawn} {ch : List Addr} (I : Inv X pins σ H s)
  (hch : ∀ b ∈ ch, (b ∈ X.ex \/ X.s₀.heap.objs.size <= b) /\ b ≠ X.env.locals /\ (∀ x c, X.env.cells.lookup x = some c -> c ≠ b) /\ ∀ p ∈ X.pn ++ pins, p.1 ≠ b)
  (keep : ∀ b o, b ≠ X.env.locals -> b ∉ X.fs -> b ∉ ch -> s.heap.get? b = some o -> H b = none -> h'.get? b = some o)
  (slot : ∀ b o, b ≠ X.env.locals -> b ∈ X.fs -> b ∉ ch -> s.heap.get? b = some o -> H b = none -> ∃ sl, h'.get? b = some { o with slots := sl }) (free : ∀ b o, b ∉ ch -> s.heap.get? b = some o -> H b = none -> H' b = none)
  (there : ∀ b o, b ∉ ch -> s.heap.get? b = some o -> ∃ o', h'.get? b = some o')
  (tups : ∀ b xs, H b = some (.tup xs) -> H' b = some (.tup xs)) (frzs : ∀ b o u, H b = some (.frz o u) -> H' b = some (.frz o u)) (tbls : ∀ b ps, H b = some (.tbl ps) -> ∃ more, H' b = some (.tbl (ps ++ more)))
  (ns : ∀ m, s.heap.Ns X.env.locals m -> h'.Ns X.env.locals m) (hok : HOk X.prog X.w H' h') (hg : AllBare g') :
  Inv X pins σ H' { s with heap := h', gens := g', drawn := d', toks := t' } := by
 have neL : ∀ b o, X.s₀.heap.get? b = some o -> b ≠ X.env.locals := λ b o e => Nat.ne_of_lt (Nat.lt_of_lt_of_le (Heap.lt_size e) I.ok.above)
 have neC : ∀ b o, X.s₀.heap.get? b = some o -> b ∉ X.ex -> b ∉ ch := λ b o e hx hb => by
  rcases (hch b hb).1 with z | z
  ·exact hx z
  ·exact absurd (Nat.lt_of_lt_of_le (Heap.lt_size e) z) (Nat.lt_irrefl _)
 have cellK : ∀ x c, X.env.cells.lookup x = some c -> ∀ v, s.heap.IsCell c v -> h'.IsCell c v := λ x c e v ⟨o, ho, hd⟩ => by
  have nch : c ∉ ch := λ z => (hch c z).2.2.1 x c e rfl
  by_cases hc : c ∈ X.fs
  ·obtain ⟨sl, q⟩ := slot c o (I.cne x c e) hc nch ho (I.freeC x c e)
   exact ⟨_, q, hd⟩
  ·exact ⟨o, keep c o (I.cne x c e) hc nch ho (I.freeC x c e), hd⟩
 refine ⟨I.ok, I.os, hg, ⟨λ b o e n hb hx => ?_, λ b o e n hb hx => ?_, λ b o e n hx => ?_, λ b o e hx => ?_, λ b xs e => tups b xs (I.base.tups b xs e), λ b o xs e => frzs b o xs (I.base.frzs b o xs e), λ b ps e => ?_⟩, ?_, λ x c e => ?_, ?_, λ x c e => ?_, λ p hp => ?_, hok, I.len⟩
 ·exact keep b o (neL b o e) hb (neC b o e hx) (I.base.keep b o e n hb hx) (I.base.free b o e n hx)
 ·obtain ⟨sl, e1⟩ := I.base.slot b o e n hb hx
  obtain ⟨sl', e2⟩ := slot b _ (neL b o e) hb (neC b o e hx) e1 (I.base.free b o e n hx)
  exact ⟨sl', e2⟩
 ·obtain ⟨o', e1⟩ := I.base.there b o e hx
  exact free b o' (neC b o e hx) e1 (I.base.free b o e n hx)
 ·obtain ⟨o', e1⟩ := I.base.there b o e hx
  exact there b o' (neC b o e hx) e1
 ·obtain ⟨m1, e1⟩ := I.base.tbls b ps e
  obtain ⟨m2, e2⟩ := tbls b _ e1
  exact ⟨m1 ++ m2, by rw [e2, Array.append_assoc]⟩
 ·obtain ⟨m, hn, hl⟩ := I.loc
  refine ⟨m, ns m hn, λ i x v e1 e2 e3 => ?_⟩
  obtain ⟨u, r, l⟩ := hl i x v e1 e2 e3
  refine ⟨u, r, ?_⟩
  rcases l with l | ⟨k, c, e, z⟩
  ·exact .inl l
  ·exact .inr ⟨k, c, e, cellK x c e _ z⟩
 ·obtain ⟨v, z⟩ := I.cell x c e
  exact ⟨v, cellK x c e v z⟩
 ·obtain ⟨m, ⟨o, _, _, ho, _⟩, _⟩ := I.loc
  exact free _ o (λ z => (hch _ z).2.1 rfl) ho I.free
 ·obtain ⟨v, o, ho, hd⟩ := I.cell x c e
  exact free c o (λ z => (hch c z).2.2.1 x c e rfl) ho (I.freeC x c e)
 ·obtain ⟨e, n, ne, nf, d⟩ := I.pin p hp
  have nch : p.1 ∉ ch := λ z => (hch p.1 z).2.2.2 p hp rfl
  exact ⟨keep p.1 p.2 ne nf nch e n, free p.1 p.2 nch e n, ne, nf, d⟩
theorem Inv.un {t' : Nat} (I : Inv X pins σ H s) (u : Un X.fs [] H H' s.heap h') (hok : HOk X.prog X.w H' h') : Inv X pins σ H' { s with heap := h', toks := t' } := by
 obtain ⟨m, ⟨o, es, ep, ho, r⟩, _⟩ := id I.loc
 obtain ⟨sl, hL⟩ := u.any ho I.free (by simp)
 exact I.step (g' := s.gens) (d' := s.drawn) (ch := []) (λ _ z => nomatch z) (λ b o _ hb _ e n => u.keep b o e n hb (by simp)) (λ b o _ hb _ e n => u.slot b o e n hb (by simp)) (λ b o _ e n => u.free b o e n (by simp)) (λ b o _ e => u.there b o e (by simp)) u.tups u.frzs u.tbls (λ m' hm => by
  obtain ⟨o', es', ep', ho', r'⟩ := hm
  rw [ho] at ho'; cases ho'
  exact ⟨_, es', ep', hL, r'⟩) hok I.bare
theorem Inv.call {g' : Array GenState} {t' : Nat} {d' : Drawn} {ch : List Addr} (I : Inv X pins σ H s) (u : Un (frs X.stack) ch H H' s.heap h') (hok : HOk X.prog X.w H' h') (hg : AllBare g')
  (hch : ∀ b ∈ ch, (b ∈ X.ex \/ X.s₀.heap.objs.size <= b) /\ b ≠ X.env.locals /\ (∀ x c, X.env.cells.lookup x = some c -> c ≠ b) /\ ∀ p ∈ X.pn ++ pins, p.1 ≠ b) :
  Inv X pins σ H' { s with heap := h', gens := g', drawn := d', toks := t' } := by
 obtain ⟨m, ⟨o, es, ep, ho, r⟩, _⟩ := id I.loc
 obtain ⟨sl, hL⟩ := u.any ho I.free λ z => (hch _ z).2.1 rfl
 exact I.step (ch := ch) hch (λ b o hL hb hc e n => u.keep b o e n (λ z => (List.mem_cons.mp (I.stkSub b z)).elim hL hb) hc) (λ b o _ _ hc e n => u.any e n hc) (λ b o hc e n => u.free b o e n hc) (λ b o hc e => u.there b o e hc) u.tups u.frzs u.tbls (λ m' hm => by
  obtain ⟨o', es', ep', ho', r'⟩ := hm
  rw [ho] at ho'; cases ho'
  exact ⟨_, es', ep', hL, r'⟩) hok hg
theorem Inv.turned {t' : Nat} {it : Addr} (I : Inv X pins σ H s) (k : ∀ b o, b ≠ it -> s.heap.get? b = some o -> h'.get? b = some o) (hn : H it = none) (hL : it ≠ X.env.locals)
  (h1 : it ∈ X.ex \/ X.s₀.heap.objs.size <= it) (h2 : ∀ x c, X.env.cells.lookup x = some c -> c ≠ it) (h3 : ∀ p ∈ X.pn ++ pins, p.1 ≠ it) : Inv X pins σ H { s with heap := h', toks := t' } := by
 have nit : ∀ b u, H b = some u -> b ≠ it := λ b u e z => by rw [z, hn] at e; cases e
 refine I.step (g' := s.gens) (d' := s.drawn) (ch := [it]) (λ b hb => ?_) (λ b o _ _ hc e _ => k b o (λ z => hc (by simp [z])) e) (λ b o _ _ hc e _ => ⟨o.slots, k b o (λ z => hc (by simp [z])) e⟩) (λ _ _ _ _ n => n)
  (λ b o hc e => ⟨o, k b o (λ z => hc (by simp [z])) e⟩) (λ _ _ e => e) (λ _ _ _ e => e) (λ b ps e => ⟨#[], by rw [e]; simp⟩) (λ m hm => ?_) (λ b u e => ?_) I.bare
 ·have e : b = it := by simpa using hb
  subst e
  exact ⟨h1, hL, h2, h3⟩
 ·obtain ⟨o, es, ep, ho, r⟩ := hm
  exact ⟨o, es, ep, k _ o (Ne.symm hL) ho, r⟩
 ·refine (I.hok b u e).stay (λ c v hc q => k c v ?_ q) (λ _ q => q) λ _ _ q => q
  rcases hc with z | z
  ·rw [z]; exact nit b u e
  ·exact nit c _ z
theorem Inv.tok (I : Inv X pins σ H s) (t : Nat) : Inv X pins σ H { s with toks := t } := I.un (h' := s.heap) (t' := t) Un.refl I.hok
theorem Inv.kept {t' : Nat} (I : Inv X pins σ H s) (k : ∀ b u, s.heap.get? b = some u -> h'.get? b = some u) : Inv X pins σ H { s with heap := h', toks := t' } := I.un (Un.kept k) (I.hok.kept k)
theorem Inv.laid {a : Addr} {o : HO} {t' : Nat} (I : Inv X pins σ H s) (k : ∀ b u, s.heap.get? b = some u -> h'.get? b = some u) (hp : s.heap.objs.size <= a) (new : q1v X.prog X.w (upd H a o) h' a o) :
  Inv X pins σ (upd H a o) { s with heap := h', toks := t' } := I.un (Un.laid k hp (I.hok.fresh hp)) (I.hok.laid k hp new)
theorem Inv.write {x e : Addr} {o : HO} {t' : Nat} (I : Inv X pins σ H s) (mu : Mut (H x)) (he : e = x \/ H e = some (.own x)) (k : ∀ b u, b ≠ e -> s.heap.get? b = some u -> h'.get? b = some u) (heo : ∃ u, h'.get? e = some u)
  (new : q1v X.prog X.w (upd H x o) h' x o) : Inv X pins σ (upd H x o) { s with heap := h', toks := t' } := I.un (Un.write mu he k heo) (I.hok.write mu he k heo new)
theorem Inv.pins_of {pins' : List (Addr × Obj)} (I : Inv X pins σ H s) (h : ∀ p ∈ pins', s.heap.get? p.1 = some p.2 /\ H p.1 = none /\ p.1 ≠ X.env.locals /\ p.1 ∉ X.fs /\ ∀ v, p.2.data ≠ .cell v) : Inv X pins' σ H s :=
 ⟨I.ok, I.os, I.bare, I.base, I.loc, I.cell, I.free, I.freeC, λ p hp => (List.mem_append.mp hp).elim (λ z => I.pin p (List.mem_append_left _ z)) (h p), I.hok, I.len⟩
theorem q4e {N : List Str} (hN : N.Nodup) {i j : Nat} {x : Str} (a : N[i]? = some x) (b : N[j]? = some x) : i = j := by
 obtain ⟨h1, e1⟩ := List.getElem?_eq_some_iff.mp a
 obtain ⟨h2, e2⟩ := List.getElem?_eq_some_iff.mp b
 exact (List.getElem_inj hN).mp (e1.trans e2.symm)
theorem q5Z {M : Model} {A : Around} {E : Value -> Shared -> Prop} {i : Nat} {x : Str} {v : V} {u : Value} {Q : Unit -> Shared -> Prop} (I : Inv X pins σ H s) (hN : X.N.Nodup) (hi : X.N[i]? = some x) (hx : Loc X.env.scope x) (r : RelV v u)
  (h : ∀ s', Inv X pins (σ.set i (some v)) H s' -> (∃ a, Heap.SameBut a s.heap s'.heap /\ (a = X.env.locals \/ X.env.cells.lookup x = some a)) -> Q () s') (hf : X.fn x = true \/ X.env.scope.names.lookup x = some .local := by first | exact .inl rfl | exact .inr rfl | assumption) : wpAny M A (storeName X.env x u) Q E s := by
 obtain ⟨m, hn, hl⟩ := id I.loc
 have hcls : (X.env.scope.kind == .class || (X.env.scope.kind == .module && X.env.locals != X.env.globals)) = false := by rw [I.ok.kind]; rfl
 have hiσ : i < σ.length := by rw [I.len]; exact (List.getElem?_eq_some_iff.mp hi).1
 have cne := I.cne
 have tracked : ∀ {a : Addr} {h' : Heap}, (∃ o, s.heap.get? a = some o /\ H a = none) -> Heap.SameBut a s.heap h' -> HOk X.prog X.w H h' := λ {a h'} ha hs b ob e => by
  obtain ⟨_, _, hfree⟩ := ha
  refine (I.hok b ob e).stay (λ c w' hc q => (hs.2 c ?_).trans q) (λ _ q => q) λ _ _ q => q
  rintro rfl
  rcases hc with rfl | hc
  ·rw [hfree] at e; cases e
  ·rw [hfree] at hc; cases hc
 rcases hx with hk | hk
 ·refine wpAny_storeName_local hk hn (λ h' hn' hs => ?_) hcls
  obtain ⟨oL, _, _, hoL, _⟩ := id hn
  refine h _ ⟨I.ok, I.os, I.bare, ⟨λ b o e n hb hx => ?_, λ b o e n hb hx => ?_, I.base.free, λ b o e hx => ?_, I.base.tups, I.base.frzs, I.base.tbls⟩, ⟨_, hn', λ j y v' e1 e2 e3 => ?_⟩, λ y c e => ?_, I.free, I.freeC, λ p hp => ?_, tracked ⟨oL, hoL, I.free⟩ hs, by simpa using I.len⟩ ⟨_, hs, .inl rfl⟩
  ·exact (hs.2 b (Nat.ne_of_lt (Nat.lt_of_lt_of_le (Heap.lt_size e) I.ok.above))).trans (I.base.keep b o e n hb hx)
  ·obtain ⟨sl, e1⟩ := I.base.slot b o e n hb hx
   exact ⟨sl, (hs.2 b (Nat.ne_of_lt (Nat.lt_of_lt_of_le (Heap.lt_size e) I.ok.above))).trans e1⟩
  ·obtain ⟨o', e1⟩ := I.base.there b o e hx
   exact ⟨o', (hs.2 b (Nat.ne_of_lt (Nat.lt_of_lt_of_le (Heap.lt_size e) I.ok.above))).trans e1⟩
  ·by_cases hj : j = i
   ·subst hj
    rw [hi] at e1; cases e1
    rw [List.getElem?_set_self hiσ] at e2
    cases e2
    exact ⟨u, r, .inl ⟨hk, by simp⟩⟩
   ·rw [List.getElem?_set_ne (Ne.symm hj)] at e2
    obtain ⟨u', r', q⟩ := hl j y v' e1 e2 e3
    refine ⟨u', r', ?_⟩
    rcases q with ⟨k, e⟩ | ⟨k, c, e, z⟩
    ·refine .inl ⟨k, ?_⟩
     have : y ≠ x := λ e => hj (q4e hN e1 (e ▸ hi))
     simp [this, e]
    ·exact .inr ⟨k, c, e, z.sameBut hs (cne y c e)⟩
  ·obtain ⟨w', z⟩ := I.cell y c e
   exact ⟨w', z.sameBut hs (cne y c e)⟩
  ·obtain ⟨e, n, ne, nf, d⟩ := I.pin p hp
   exact ⟨(hs.2 p.1 ne).trans e, n, ne, nf, d⟩
 ·have hfn : X.fn x = true := by
   rcases hf with z | z
   ·exact z
   ·rw [z] at hk; cases hk
  obtain ⟨c, hc⟩ := I.ok.has x (.inl hk)
  obtain ⟨w', z⟩ := I.cell x c hc
  refine wpAny_storeName_cell I.ok.kind hk hc z (λ h' hc' hs => ?_)
  obtain ⟨oc, hoc, hocd⟩ := id z
  refine h { s with heap := h' } ⟨I.ok, I.os, I.bare, ⟨λ b o e n hb hx => ?_, λ b o e n hb hx => ?_, I.base.free, λ b o e hx => ?_, I.base.tups, I.base.frzs, I.base.tbls⟩, ⟨m, hn.sameBut hs (Ne.symm (cne x c hc)), λ j y v' e1 e2 e3 => ?_⟩, λ y c' e => ?_, I.free, I.freeC, λ p hp => ?_, tracked ⟨oc, hoc, I.freeC x c hc⟩ hs, by simpa using I.len⟩ ⟨c, hs, .inr hc⟩
  ·exact (hs.2 b (Nat.ne_of_lt (Nat.lt_of_lt_of_le (Heap.lt_size e) (I.ok.cab x c hfn hc)))).trans (I.base.keep b o e n hb hx)
  ·obtain ⟨sl, e1⟩ := I.base.slot b o e n hb hx
   exact ⟨sl, (hs.2 b (Nat.ne_of_lt (Nat.lt_of_lt_of_le (Heap.lt_size e) (I.ok.cab x c hfn hc)))).trans e1⟩
  ·obtain ⟨o', e1⟩ := I.base.there b o e hx
   exact ⟨o', (hs.2 b (Nat.ne_of_lt (Nat.lt_of_lt_of_le (Heap.lt_size e) (I.ok.cab x c hfn hc)))).trans e1⟩
  ·by_cases hj : j = i
   ·subst hj
    rw [hi] at e1; cases e1
    rw [List.getElem?_set_self hiσ] at e2
    cases e2
    exact ⟨u, r, .inr ⟨.inl hk, c, hc, hc'⟩⟩
   ·rw [List.getElem?_set_ne (Ne.symm hj)] at e2
    obtain ⟨u', r', q⟩ := hl j y v' e1 e2 e3
    refine ⟨u', r', ?_⟩
    rcases q with q | ⟨k, c', e, z'⟩
    ·exact .inl q
    ·refine .inr ⟨k, c', e, z'.sameBut hs ?_⟩
     rintro rfl
     exact hj (q4e hN e1 (I.ok.inj _ _ _ e hc ▸ hi))
  ·by_cases hcc : c' = c
   ·subst hcc; exact ⟨_, hc'⟩
   ·obtain ⟨w2, z2⟩ := I.cell y c' e
    exact ⟨w2, z2.sameBut hs hcc⟩
  ·obtain ⟨e, n, ne, nf, d⟩ := I.pin p hp
   refine ⟨(hs.2 p.1 ?_).trans e, n, ne, nf, d⟩
   intro q
   rw [q, hoc] at e
   have q' : oc = p.2 := Option.some.inj e
   exact d w' (by rw [<- q']; exact hocd)
theorem q5l {M : Model} {A : Around} {E : Value -> Shared -> Prop} {i : Nat} {x : Str} {v : V} {u : Value} {Q : Unit -> Shared -> Prop} (I : Inv X pins σ H s) (hN : X.N.Nodup) (hi : X.N[i]? = some x) (hx : Loc X.env.scope x) (r : RelV v u)
  (h : ∀ s', Inv X pins (σ.set i (some v)) H s' -> Q () s') (hf : X.fn x = true \/ X.env.scope.names.lookup x = some .local := by first | exact .inl rfl | exact .inr rfl | assumption) : wpAny M A (storeName X.env x u) Q E s :=
 q5Z I hN hi hx r (λ s' I' _ => h s' I') hf
theorem Inv.call' {s' : Shared} {ch : List Addr} (I : Inv X pins σ H s) (ho : s'.os = s.os) (u : Un (frs X.stack) ch H H' s.heap s'.heap) (hok : HOk X.prog X.w H' s'.heap) (hg : AllBare s'.gens)
  (hch : ∀ b ∈ ch, (b ∈ X.ex \/ X.s₀.heap.objs.size <= b) /\ b ≠ X.env.locals /\ (∀ x c, X.env.cells.lookup x = some c -> c ≠ b) /\ ∀ p ∈ X.pn ++ pins, p.1 ≠ b) : Inv X pins σ H' s' := by
 obtain ⟨h', g', d', t', o'⟩ := s'
 have e : o' = s.os := ho
 subst e
 exact I.call (g' := g') (t' := t') (d' := d') u hok hg hch
end
noncomputable abbrev XK := Value -> Option Addr -> Hp -> Prop
noncomputable abbrev St := List (Option V)
noncomputable abbrev VK := V -> Hp -> Prop
noncomputable abbrev TE := St -> Hp -> VK -> Prop
noncomputable abbrev TT := St -> Hp -> (Bool -> Hp -> Prop) -> Prop
noncomputable abbrev TA := St -> Hp -> (List V -> Hp -> Prop) -> Prop
structure Ends where
 nx : St -> Hp -> Prop
 rt : VK
 bk : St -> Hp -> Prop := λ _ _ => False
 ct : St -> Hp -> Prop := λ _ _ => False
noncomputable abbrev TS := Ends -> St -> Hp -> Prop
noncomputable def EP (X : Cx) (pins : List (Addr × Obj)) (σ : St) (Q : VK) (u : Value) (s' : Shared) : Prop := ∃ v H', Inv X pins σ H' s' /\ RelV v u /\ Q v H'
noncomputable def TP (X : Cx) (pins : List (Addr × Obj)) (σ : St) (Q : Bool -> Hp -> Prop) (b : Bool) (s' : Shared) : Prop := ∃ H', Inv X pins σ H' s' /\ Q b H'
noncomputable def AP (X : Cx) (pins : List (Addr × Obj)) (σ : St) (Q : List V -> Hp -> Prop) (us : List Value) (s' : Shared) : Prop := ∃ vs H', Inv X pins σ H' s' /\ Vals vs us /\ Q vs H'
noncomputable def SP (X : Cx) (pins : List (Addr × Obj)) (D : Ends) (f : Flow) (s' : Shared) : Prop :=
 match f with
 | .next => ∃ σ' H', Inv X pins σ' H' s' /\ D.nx σ' H'
 | .brk => ∃ σ' H', Inv X pins σ' H' s' /\ D.bk σ' H'
 | .cont => ∃ σ' H', Inv X pins σ' H' s' /\ D.ct σ' H'
 | .ret u => ∃ v σ' H', Inv X pins σ' H' s' /\ RelV v u /\ D.rt v H'
noncomputable def PE (X : Cx) (e : Expr) (t : TE) : Prop :=
 ∀ (pins : List (Addr × Obj)) (s : Shared) (σ : St) (H : Hp) (Q : VK), Inv X pins σ H s -> t σ H Q -> wpAny (model X.prog X.w) X.A (eval e X.env) (EP X pins σ Q) X.xe s
noncomputable def PT (X : Cx) (e : Expr) (t : TT) : Prop :=
 ∀ (pins : List (Addr × Obj)) (s : Shared) (σ : St) (H : Hp) (Q : Bool -> Hp -> Prop), Inv X pins σ H s -> t σ H Q -> wpAny (model X.prog X.w) X.A (isTrue e X.env (eval e X.env)) (TP X pins σ Q) X.xe s
noncomputable def PW (X : Cx) (e : Expr) (t : TT) : Prop :=
 ∀ (whole : Sem Value) (pins : List (Addr × Obj)) (s : Shared) (σ : St) (H : Hp) (Q : Bool -> Hp -> Prop), Inv X pins σ H s -> t σ H Q -> wpAny (model X.prog X.w) X.A (isTrue e X.env whole) (TP X pins σ Q) X.xe s
theorem PW.pt {X : Cx} {e : Expr} {t : TT} (h : PW X e t) : PT X e t := h _
noncomputable def PA (X : Cx) (es : List Expr) (t : TA) : Prop :=
 ∀ (pos : Pos) (pins : List (Addr × Obj)) (s : Shared) (σ : St) (H : Hp) (Q : List V -> Hp -> Prop), Inv X pins σ H s -> t σ H Q -> wpAny (model X.prog X.w) X.A (spliced (backTo pos (starEach es X.env))) (AP X pins σ Q) X.xe s
noncomputable def PS (X : Cx) (st : Stmt) (t : TS) : Prop :=
 ∀ (pins : List (Addr × Obj)) (s : Shared) (σ : St) (H : Hp) (D : Ends), Inv X pins σ H s -> t D σ H -> wpAny (model X.prog X.w) X.A (exec st X.env) (SP X pins D) X.xe s
noncomputable def PSs (X : Cx) (st : List Stmt) (t : TS) : Prop :=
 ∀ (pins : List (Addr × Obj)) (s : Shared) (σ : St) (H : Hp) (D : Ends), Inv X pins σ H s -> t D σ H -> wpAny (model X.prog X.w) X.A (execs st X.env) (SP X pins D) X.xe s
theorem thn {α : Type} {t : Sem α} {Q Q' : α -> Shared -> Prop} {M : Model} {A : Around} {E : Value -> Shared -> Prop} {s : Shared} (h : wpAny M A t Q E s) (hQ : ∀ a s, Q a s -> Q' a s) : wpAny M A t Q' E s := wpAny_mono h hQ λ _ _ x => x
end L2
namespace L2
open PySem PySem.Spec PyProof.Rows
section
variable {X : Cx}
theorem bin {a b : Expr} {ta tb : TE} (ha : PE X a ta) (hb : PE X b tb) {pins : List (Addr × Obj)} {s : Shared} {σ : St} {H : Hp} {R : V -> V -> Hp -> Prop} (I : Inv X pins σ H s) (h : ta σ H λ x H1 => tb σ H1 λ y H2 => R x y H2)
  {α : Type} {Q : α -> Shared -> Prop} {f : Value -> Value -> Sem α}
  (hf : ∀ v u s2 x y H2, Inv X pins σ H2 s2 -> RelV x v -> RelV y u -> R x y H2 -> wpAny (model X.prog X.w) X.A (f v u) Q X.xe s2) :
  wpAny (model X.prog X.w) X.A (eval a X.env) (λ v sA => wpAny (model X.prog X.w) X.A (eval b X.env) (λ u sB => wpAny (model X.prog X.w) X.A (f v u) Q X.xe sB) X.xe sA) X.xe s := by
 refine thn (ha pins s σ H _ I h) λ v s1 ⟨x, H1, I1, r1, q1⟩ => ?_
 refine thn (hb pins s1 σ H1 _ I1 q1) λ u s2 ⟨y, H2, I2, r2, q2⟩ => ?_
 exact hf v u s2 x y H2 I2 r1 r2 q2
noncomputable def tVar (i : Nat) : TE := λ σ H Q => ∃ v, σ[i]? = some (some v) /\ Q v H
noncomputable def tC (v : V) : TE := λ _ H Q => Q v H
theorem q5W {i : Nat} {x : Str} {pos : Pos} (hN : X.N[i]? = some x) (hv : Vis X.env.scope x) (hd : (x == ("__debug__" : Str)) = false := by decide) (hcd : (x == ("__classdict__" : Str)) = false := by decide) : PE X (.Name x pos) (tVar i) := by
 intro pins s σ H Q I h
 obtain ⟨v, e, h⟩ := h
 obtain ⟨m, hn, hl⟩ := I.loc
 obtain ⟨u, r, l⟩ := hl i x v hN e hv
 have fin : EP X pins σ Q u s := ⟨v, H, I, r, h⟩
 rcases l with ⟨hk, hm⟩ | ⟨hk, c, hc, hcell⟩
 ·exact wpAny_Name (wpAny_loadName_local I.ok.kind hk hn hm fin) hd
 ·rcases hk with hk | hk
  ·exact wpAny_Name (wpAny_loadName_cell I.ok.kind hk hc hcell fin) hd
  ·exact wpAny_Name (wpAny_loadName_free I.ok.kind hk hc hcell fin hcd) hd
theorem z5H {i j pos} : PE X (.Constant (.int i) j pos) (tC (.int i)) := λ _ _ _ H _ I h => wpAny_Constant_int ⟨.int i, H, I.tok _, ⟨_, rfl⟩, h⟩
theorem z7z {b j pos} : PE X (.Constant (.bool b) j pos) (tC (.bl b)) := λ _ _ _ H _ I h => Constant_bool ⟨.bl b, H, I, rfl, h⟩
theorem z6o {j pos} : PE X (.Constant .none j pos) (tC .non) := λ _ _ _ H _ I h => Constant_none ⟨.non, H, I, rfl, h⟩
theorem z5L {x j pos} : PE X (.Constant (.str x) j pos) (tC (.str x)) := λ _ _ _ H _ I h => Calls.Constant_str ⟨.str x, H, I.tok _, ⟨_, rfl⟩, h⟩
noncomputable def Gl (X : Cx) (x : Str) : Prop := X.env.kindOf x = some .globalImplicit
theorem q5h {E : Value -> Shared -> Prop} {pins : List (Addr × Obj)} {s : Shared} {σ : St} {H : Hp} {x : Str} {u : Value} {pos : Pos} {Q : Value -> Shared -> Prop} (I : Inv X pins σ H s) (hg : Gl X x) (hm : X.mg x = some u) (h : Q u s)
  (hd : (x == ("__debug__" : Str)) = false := by decide) : wpAny (model X.prog X.w) X.A (eval (.Name x pos) X.env) Q E s :=
 Calls.Name_function_global I.ok.kind hg (Calls.loadGlobal_global (by rw [I.ok.glob]; exact I.mod.glob.keeps I.bk) hm h) hd
theorem q4V {E : Value -> Shared -> Prop} {pins : List (Addr × Obj)} {s : Shared} {σ : St} {H : Hp} {x : Str} {u : Value} {pos : Pos} {Q : Value -> Shared -> Prop} (I : Inv X pins σ H s) (hg : Gl X x) (hm : X.mg x = none) (hv : bootBuiltins x = some u) (h : Q u s)
  (hn : x ≠ "__name__" := by decide) (hd : (x == ("__debug__" : Str)) = false := by decide) : wpAny (model X.prog X.w) X.A (eval (.Name x pos) X.env) Q E s := by
 obtain ⟨mb, h1, h2⟩ := I.mod.blt
 exact Calls.Name_function_global I.ok.kind hg (Calls.loadGlobal_builtin (by rw [I.ok.glob]; exact I.mod.glob.keeps I.bk) hm (by rw [I.ok.blt]; exact h1.keeps I.bk) ((h2 x hn).trans hv) h) hd
theorem q9L {x : Str} {v : V} {u : Value} {pos : Pos} (hg : Gl X x) (hm : X.mg x = some u) (r : RelV v u) (hd : (x == ("__debug__" : Str)) = false := by decide) : PE X (.Name x pos) (tC v) :=
 λ _ _ _ H _ I h => q5h I hg hm ⟨v, H, I, r, h⟩ hd
theorem q5w {x : Str} {v : V} {u : Value} {pos : Pos} (hg : Gl X x) (hm : X.mg x = none) (hv : bootBuiltins x = some u) (r : RelV v u) (hn : x ≠ "__name__" := by decide) (hd : (x == ("__debug__" : Str)) = false := by decide) : PE X (.Name x pos) (tC v) :=
 λ _ _ _ H _ I h => q4V I hg hm hv ⟨v, H, I, r, h⟩ hn hd
variable {a b : Expr} {ta tb : TE} {pos : Pos}
variable {tA tB' : TT} {rest : List Expr}
noncomputable def tAnd (t u : TT) : TT := λ σ H Q => t σ H λ c H1 => if c = true then u σ H1 Q else Q false H1
noncomputable def tOr (t u : TT) : TT := λ σ H Q => t σ H λ c H1 => if c = true then Q true H1 else u σ H1 Q
noncomputable def tNot (t : TT) : TT := λ σ H Q => t σ H λ c H1 => Q (!c) H1
theorem z3R (ha : PT X a tA) : PW X (.BoolOp .And [a] pos) tA := by
 intro wh pins s σ H Q I h
 refine isTrue_and (thn (ha pins s σ H Q I h) λ c s1 e => ?_)
 cases c with
 | true => exact isTrue_and_nil e
 | false => exact e
theorem z6x (ha : PT X a tA) : PW X (.BoolOp .Or [a] pos) tA := by
 intro wh pins s σ H Q I h
 refine isTrue_or (thn (ha pins s σ H Q I h) λ c s1 e => ?_)
 cases c with
 | false => exact isTrue_or_nil e
 | true => exact e
theorem z0y (ha : PT X a tA) (hb : PW X (.BoolOp .And (b :: rest) pos) tB') : PW X (.BoolOp .And (a :: b :: rest) pos) (tAnd tA tB') := by
 intro wh pins s σ H Q I h
 refine isTrue_and (thn (ha pins s σ H _ I h) λ c s1 ⟨H1, I1, q1⟩ => ?_)
 cases c with
 | true => exact hb wh pins s1 σ H1 Q I1 q1
 | false => exact ⟨H1, I1, q1⟩
theorem z3q (ha : PT X a tA) (hb : PW X (.BoolOp .Or (b :: rest) pos) tB') : PW X (.BoolOp .Or (a :: b :: rest) pos) (tOr tA tB') := by
 intro wh pins s σ H Q I h
 refine isTrue_or (thn (ha pins s σ H _ I h) λ c s1 ⟨H1, I1, q1⟩ => ?_)
 cases c with
 | true => exact ⟨H1, I1, q1⟩
 | false => exact hb wh pins s1 σ H1 Q I1 q1
theorem z2k (ha : PT X a tA) : PT X (.UnaryOp .Not a pos) (tNot tA) := by
 intro pins s σ H Q I h
 exact isTrue_not (ha pins s σ H (λ c H1 => Q (!c) H1) I h)
theorem z2e {op} {t : TE} (h : PE X a t) : PE X (.BoolOp op [a] pos) t := λ pins s σ H Q I hw => BoolOp_one (h pins s σ H Q I hw)
noncomputable def tIf (t : TT) (ta tb : TE) : TE := λ σ H Q => t σ H λ c H1 => if c = true then ta σ H1 Q else tb σ H1 Q
theorem q5I {c : Expr} (hc : PT X c tA) (ha : PE X a ta) (hb : PE X b tb) : PE X (.IfExp c a b pos) (tIf tA ta tb) := by
 intro pins s σ H Q I h
 refine wpAny_IfExp (thn (hc pins s σ H _ I h) λ d s1 ⟨H1, I1, q1⟩ => ?_)
 cases d with
 | true => exact ha pins s1 σ H1 Q I1 q1
 | false => exact hb pins s1 σ H1 Q I1 q1
end
end L2
namespace L2
open PySem PySem.Spec PyProof.Rows
noncomputable def SqL (K : PySem.W.Frag) (H : Hp) (a : Addr) (xs : List V) : Prop :=
 Rd H a (.lst xs) \/
  ∃ (o : Obj) (its : Array Value) (n : Nat), K.lookup a = some o /\ o.cls = .type "list" /\ o.dict = none /\ o.data = .seq its n /\ its.size <= sizeLine /\ Vals xs its.toList
noncomputable def SqT (K : PySem.W.Frag) (H : Hp) (a : Addr) (xs : List V) : Prop :=
 Rd H a (.tup xs) \/
  ∃ (o : Obj) (its : Array Value) (n : Nat), K.lookup a = some o /\ (o.cls = .type "tuple" /\ o.dict = none) /\ o.data = .seq its n /\ its.size <= sizeLine /\ Vals xs its.toList
noncomputable def absV : Value -> Option V
 | .none => some .non
 | .bool b => some (.bl b)
 | .int i _ => some (.int i)
 | .str x _ => some (.str x)
 | .bytes b _ => some (.byt b)
 | .float b _ => some (.flt b)
 | .ref a => some (.ref a)
 | .type n => some (.ty n)
 | _ => none
theorem RelV.abs {x : V} {u : Value} (r : RelV x u) : absV u = some x := by
 cases x with
 | non => cases r; rfl
 | bl _ => cases r; rfl
 | int _ => obtain ⟨t, rfl⟩ := r; rfl
 | str _ => obtain ⟨t, rfl⟩ := r; rfl
 | byt _ => obtain ⟨t, rfl⟩ := r; rfl
 | flt _ => obtain ⟨t, rfl⟩ := r; rfl
 | ref _ => cases r; rfl
 | ty _ => cases r; rfl
theorem RelV.inj {x y : V} {u : Value} (r : RelV x u) (q : RelV y u) : x = y := Option.some.inj (r.abs.symm.trans q.abs)
theorem Vals.inj {xs ys : List V} {us : List Value} (h : Vals xs us) : Vals ys us -> xs = ys := by
 induction h generalizing ys with
 | nil => intro t; cases t; rfl
 | cons r _ ih => intro t; cases t with | cons r' t' => rw [r.inj r', ih t']
section
variable {X : Cx} {pins : List (Addr × Obj)} {σ : St} {H : Hp} {s : Shared} {a : Addr} {xs ys : List V}
theorem SqL.of {K : PySem.W.Frag} (h : H a = some (.lst xs)) : SqL K H a xs := .inl (.inl h)
theorem SqT.of {K : PySem.W.Frag} (h : H a = some (.tup xs)) : SqT K H a xs := .inl (.inl h)
theorem Inv.list (I : Inv X pins σ H s) (h : SqL X.K H a xs) : ∃ its : List Value, Vals xs its /\ PlainL s.heap a its.toArray /\ xs.length <= sizeLine := by
 rcases h with h | ⟨o, its, n, hk, hc, hd, hs, hz, r⟩
 ·obtain ⟨z, its, n, r, e⟩ := h.ok I.hok
  exact ⟨its, r, ⟨_, n, e, rfl, rfl, rfl⟩, z⟩
 ·refine ⟨its.toList, r, ⟨o, n, I.kIn a o hk, hc, hd, by simpa using hs⟩, ?_⟩
  have e := r.length
  simp only [Array.length_toList] at e
  omega
theorem Inv.tuple (I : Inv X pins σ H s) (h : SqT X.K H a xs) : ∃ its : List Value, Vals xs its /\ IsTup s.heap a its.toArray /\ xs.length <= sizeLine := by
 rcases h with h | ⟨o, its, n, hk, hc, hs, hz, r⟩
 ·obtain ⟨z, its, r, p⟩ := h.ok I.hok
  exact ⟨its, r, p.tup, z⟩
 ·refine ⟨its.toList, r, ⟨o, I.kIn a o hk, hc.1, n, by simpa using hs⟩, ?_⟩
  have e := r.length
  simp only [Array.length_toList] at e
  omega
theorem Inv.tupleN (I : Inv X pins σ H s) (h : SqT X.K H a xs) : ∃ o, s.heap.get? a = some o /\ o.cls = .type "tuple" /\ o.dict = none := by
 rcases h with h | ⟨o, its, n, hk, hc, hs, hz, r⟩
 ·obtain ⟨z, its, r, o, e, c, _⟩ := h.ok I.hok
  exact ⟨o, e, c.1, c.2⟩
 ·exact ⟨o, I.kIn a o hk, hc.1, hc.2⟩
theorem Inv.list_inj (I : Inv X pins σ H s) (h : SqL X.K H a xs) (h' : SqL X.K H a ys) : xs = ys := by
 obtain ⟨its, r, ⟨o, n, e, _, _, d⟩, _⟩ := I.list h
 obtain ⟨its', r', ⟨o', n', e', _, _, d'⟩, _⟩ := I.list h'
 rw [e] at e'; cases e'
 rw [d] at d'
 injection d' with d1 _
 have : its = its' := by simpa using congrArg Array.toList d1
 subst this
 exact r.inj r'
theorem Inv.tuple_inj (I : Inv X pins σ H s) (h : SqT X.K H a xs) (h' : SqT X.K H a ys) : xs = ys := by
 obtain ⟨its, r, ⟨o, e, _, n, d⟩, _⟩ := I.tuple h
 obtain ⟨its', r', ⟨o', e', _, n', d'⟩, _⟩ := I.tuple h'
 rw [e] at e'; cases e'
 rw [d] at d'
 injection d' with d1 _
 have : its = its' := by simpa using congrArg Array.toList d1
 subst this
 exact r.inj r'
end
section
variable {X : Cx} {pins : List (Addr × Obj)} {σ : St} {H : Hp} {s : Shared} {E : Value -> Shared -> Prop}
end
section
variable {X : Cx} {st : Stmt} {rest : List Stmt} {t u : TS} {e : Expr} {te : TE} {pos : Pos}
noncomputable def z7C : TS := λ D σ H => D.nx σ H
noncomputable def tSeq (t u : TS) : TS := λ D σ H => t { D with nx := u D } σ H
theorem z3g : PSs X [] z7C := λ _ _ σ H _ I h => wpAny_execs_nil ⟨σ, H, I, h⟩
theorem q4d (h1 : PS X st t) (h2 : PSs X rest u) : PSs X (st :: rest) (tSeq t u) := by
 intro pins s σ H D I h
 refine wpAny_execs_cons (thn (h1 pins s σ H { D with nx := u D } I h) λ f s1 q => ?_)
 cases f with
 | next =>
  obtain ⟨σ', H', I', q⟩ := q
  exact h2 pins s1 σ' H' D I' q
 | ret v => exact q
 | brk => exact q
 | cont => exact q
theorem z4N (h1 : PS X st t) : PSs X [st] t := by
 intro pins s σ H D I h
 refine wpAny_execs_cons (thn (h1 pins s σ H D I h) λ f s1 q => ?_)
 cases f with
 | next => exact wpAny_execs_nil q
 | ret v => exact q
 | brk => exact q
 | cont => exact q
theorem Inv.quiet {pins : List (Addr × Obj)} {σ : St} {H : Hp} {s : Shared} (I : Inv X pins σ H s) : interactive X.env = false := by simp [interactive, I.ok.kind]
noncomputable def z7F (te : TE) : TS := λ D σ H => te σ H λ _ H1 => D.nx σ H1
theorem q5m (he : PE X e te) (hs : swapsWith e none pos.line X.env = pure false := by rfl) : PS X (.Expr e pos) (z7F te) := by
 intro pins s σ H D I h
 exact wpAny_Expr_any (thn (he pins s σ H _ I h) λ v s1 ⟨x, H1, I1, r1, q1⟩ => ⟨σ, H1, I1, q1⟩) I.quiet hs
noncomputable def tRet (te : TE) : TS := λ D σ H => te σ H D.rt
theorem q8Y (he : PE X e te) : PS X (.Return (some e) pos) (tRet te) := by
 intro pins s σ H D I h
 exact wpAny_Return_some (thn (he pins s σ H _ I h) λ v s1 ⟨x, H1, I1, r1, q1⟩ => ⟨x, σ, H1, I1, r1, q1⟩)
noncomputable def tIfS (c : TT) (t u : TS) : TS := λ D σ H => c σ H λ b H1 => if b = true then t D σ H1 else u D σ H1
theorem z4L {c : Expr} {a b : List Stmt} {tc : TT} (hc : PT X c tc) (ha : PSs X a t) (hb : PSs X b u) : PS X (.If c a b pos) (tIfS tc t u) := by
 intro pins s σ H D I h
 refine wpAny_If (thn (hc pins s σ H _ I h) λ d s1 ⟨H1, I1, q1⟩ => ?_)
 cases d with
 | true => exact ha pins s1 σ H1 D I1 q1
 | false => exact hb pins s1 σ H1 D I1 q1
noncomputable def z4U : TS := λ _ _ _ => False
theorem q1L {sts : List Stmt} : PSs X sts z4U := λ _ _ _ _ _ _ h => h.elim
end
noncomputable abbrev TG := V -> St -> Hp -> (St -> Hp -> Prop) -> Prop
noncomputable abbrev TGs := List V -> St -> Hp -> (St -> Hp -> Prop) -> Prop
noncomputable def PG (X : Cx) (target : Expr) (t : TG) : Prop :=
 ∀ (pins : List (Addr × Obj)) (s : Shared) (σ : St) (H : Hp) (v : V) (u : Value) (Q : St -> Hp -> Prop), Inv X pins σ H s -> RelV v u -> t v σ H Q ->
  wpAny (model X.prog X.w) X.A (assign target X.env u) (λ _ s' => ∃ σ' H', Inv X pins σ' H' s' /\ Q σ' H') X.xe s
noncomputable def PGs (X : Cx) (ts : List Expr) (t : TGs) : Prop :=
 ∀ (pins : List (Addr × Obj)) (s : Shared) (σ : St) (H : Hp) (vs : List V) (us : List Value) (Q : St -> Hp -> Prop), Inv X pins σ H s -> Vals vs us -> t vs σ H Q ->
  wpAny (model X.prog X.w) X.A (assignInOrder ((assignEach ts X.env).map (·.2)) us) (λ _ s' => ∃ σ' H', Inv X pins σ' H' s' /\ Q σ' H') X.xe s
noncomputable abbrev TSet := V -> V -> V -> Hp -> (Hp -> Prop) -> Prop
noncomputable def PSet (X : Cx) (t : TSet) : Prop :=
 ∀ (pins : List (Addr × Obj)) (s : Shared) (σ : St) (H : Hp) (o i v : V) (ov iv u : Value) (Q : Hp -> Prop), Inv X pins σ H s -> RelV o ov -> RelV i iv -> RelV v u -> t o i v H Q ->
  wpAny (model X.prog X.w) X.A (setItem ov iv u) (λ _ s' => ∃ H', Inv X pins σ H' s' /\ Q H') X.xe s
section
variable {X : Cx} {pos : Pos}
noncomputable def q8E (i : Nat) : TG := λ v σ H Q => Q (σ.set i (some v)) H
theorem z0Q {i : Nat} {x : Str} (hN : X.N.Nodup) (hi : X.N[i]? = some x) (hx : Loc X.env.scope x) (hf : X.fn x = true \/ X.env.scope.names.lookup x = some .local := by first | exact .inl rfl | exact .inr rfl | assumption) : PG X (.Name x pos) (q8E i) := by
 intro pins s σ H v u Q I r h
 exact wpAny_assign_Name (q5l I hN hi hx r (λ s' I' => ⟨_, H, I', h⟩) hf)
noncomputable def gNil : TGs := λ vs σ H Q => vs = [] /\ Q σ H
noncomputable def z5t (t : TG) (u : TGs) : TGs := λ vs σ H Q => ∃ v r, vs = v :: r /\ t v σ H λ σ' H' => u r σ' H' Q
theorem z3t : PGs X [] gNil := by
 intro pins s σ H vs us Q I r h
 obtain ⟨e, h⟩ := h
 subst e
 cases r
 exact assignInOrder_nil ⟨σ, H, I, h⟩
theorem z1Q {e : Expr} {es : List Expr} {t : TG} {u : TGs} (h1 : PG X e t) (h2 : PGs X es u)
  (hs : (assignEach (e :: es) X.env).map (·.2) = assign e X.env :: (assignEach es X.env).map (·.2) := by rfl) : PGs X (e :: es) (z5t t u) := by
 intro pins s σ H vs us Q I r h
 obtain ⟨v, vr, e1, h⟩ := h
 subst e1
 cases r with
 | cons r rr =>
  rw [hs]
  refine assignInOrder_cons (thn (h1 pins s σ H _ _ _ I r h) λ _ s1 ⟨σ1, H1, I1, q1⟩ => ?_)
  exact h2 pins s1 σ1 H1 _ _ Q I1 rr q1
noncomputable def gTup (K : PySem.W.Frag) (n : Nat) (t : TGs) : TG := λ v σ H Q => ∃ a xs, v = .ref a /\ SqT K H a xs /\ xs.length = n /\ t xs σ H Q
theorem z5Q {es : List Expr} {k : Nat} {t : TGs} {n : Nat} (hc : X.calm = true) (h : PGs X es t)
  (hn : (assignEach es X.env).length = n := by rfl) (hst : (assignEach es X.env).findIdx? (·.1) = none := by rfl) : PG X (.Tuple es k pos) (gTup X.K n t) := by
 intro pins s σ H v u Q I r hw
 obtain ⟨a, xs, e1, hq, hl, hw⟩ := hw
 subst e1
 cases r
 obtain ⟨its, rv, ht, hz⟩ := I.tuple hq
 refine assign_Tuple_tuple (I.ok.hd hc) ht (by simp [hn, <- hl, rv.length]) hst λ h' hx => ?_
 have I1 : Inv X pins σ H { s with heap := h' } := I.kept (t' := s.toks) λ b o e => hx b o (Nat.ne_of_lt (Heap.lt_size e)) e
 exact h pins _ σ H xs _ Q I1 (by simpa using rv) hw
noncomputable def gSub (to ti : TE) (t : TSet) : TG := λ v σ H Q => to σ H λ o H1 => ti σ H1 λ i H2 => t o i v H2 λ H3 => Q σ H3
theorem z5k {o i : Expr} {to ti : TE} {t : TSet} (ho : PE X o to) (hi : PE X i ti) (hs : PSet X t)
  (ha : ∀ v, assign (.Subscript o i pos) X.env v = (do
   let ov <- holding [v] (eval o X.env)
   let iv <- holding [v, ov] (eval i X.env)
   standAt pos
   holding [v, ov, iv] (setItem ov iv v)
   release [v, ov, iv] []) := by intro _; rfl) : PG X (.Subscript o i pos) (gSub to ti t) := by
 intro pins s σ H v u Q I r h
 rw [ha]
 refine wpAny_bind (wpAny_holding (thn (ho pins s σ H _ I h) λ ov s1 ⟨x, H1, I1, r1, q1⟩ => ?_))
 refine wpAny_bind (wpAny_holding (thn (hi pins s1 σ H1 _ I1 q1) λ iv s2 ⟨y, H2, I2, r2, q2⟩ => ?_))
 refine wpAny_bind (wpAny_standAt (wpAny_bind (wpAny_holding (thn (hs pins s2 σ H2 x y v ov iv u _ I2 r1 r2 r q2) λ _ s3 ⟨H3, I3, q3⟩ => ?_))))
 exact wpAny_release ⟨σ, H3, I3, q3⟩
noncomputable def tAsg (te : TE) (g : TG) : TS := λ D σ H => te σ H λ x H1 => g x σ H1 D.nx
theorem z5v {tg e : Expr} {te : TE} {g : TG} (he : PE X e te) (hg : PG X tg g) (hs : swapsWithSole [tg] e pos.line X.env = pure false := by rfl) (hw : swappedStores [tg] e X.env = pure none := by rfl)
  (h1 : (assignEach [tg] X.env).map (·.2) = [assign tg X.env] := by rfl) : PS X (.Assign [tg] e pos) (tAsg te g) := by
 intro pins s σ H D I h
 refine wpAny_Assign_stores (thn (he pins s σ H _ I h) λ v s1 ⟨x, H1, I1, r1, q1⟩ => ?_) hs hw
 rw [h1]
 exact thn (hg pins s1 σ H1 x v _ I1 r1 q1) λ _ s2 q => q
theorem q9A {i : Nat} {x : Str} {e : Expr} {te : TE} {pos' : Pos} (hN : X.N.Nodup) (hi : X.N[i]? = some x) (hx : Loc X.env.scope x) (he : PE X e te) (hs : swapsWith e (some (.Name x pos')) pos.line X.env = pure false := by rfl) (hf : X.fn x = true \/ X.env.scope.names.lookup x = some .local := by first | exact .inl rfl | exact .inr rfl | assumption) :
  PS X (.Assign [.Name x pos'] e pos) (tAsg te (q8E i)) := by
 intro pins s σ H D I h
 refine wpAny_Assign_Name (thn (he pins s σ H _ I h) λ v s1 ⟨y, H1, I1, r1, q1⟩ => ?_) hs
 exact q5l I1 hN hi hx r1 (λ s2 I2 => ⟨_, H1, I2, q1⟩) hf
end
section
variable {X : Cx} {pos : Pos}
end
structure It where
 go : Nat -> Hp -> Prop
 yld : Nat -> Hp -> V -> Hp -> Prop
 stop : Nat -> Hp -> Prop
noncomputable def FpOk (X : Cx) (pins : List (Addr × Obj)) (H : Hp) (b : Addr) : Prop :=
 H b = none /\ b ≠ X.env.locals /\ b ∉ X.fs /\ (b ∈ X.ex \/ X.s₀.heap.objs.size <= b) /\ (∀ x c, X.env.cells.lookup x = some c -> c ≠ b) /\ ∀ p ∈ X.pn ++ pins, p.1 ≠ b
theorem Inv.fpOk {X : Cx} {pins : List (Addr × Obj)} {σ : St} {H H' : Hp} {s : Shared} {b : Addr} (I : Inv X pins σ H s) (hb : s.heap.objs.size <= b) (hn : H' b = none) : FpOk X pins H' b := by
 refine ⟨hn, Nat.ne_of_gt (Nat.lt_of_lt_of_le I.lt hb), I.nofs hb, .inr (Nat.le_trans I.sz hb), λ x c e z => ?_, λ p hp z => ?_⟩
 ·obtain ⟨v, q⟩ := I.cell x c e
  exact absurd (Nat.lt_of_lt_of_le q.lt (by rw [z]; exact hb)) (Nat.lt_irrefl _)
 ·exact absurd (Nat.lt_of_lt_of_le (Heap.lt_size (I.pin p hp).1) (by rw [z]; exact hb)) (Nat.lt_irrefl _)
structure Turn (P : Program) (w : World) (K : PySem.W.Frag) (tg : Expr) (J : It) (fp : List Addr) (it : Addr) (tn : Nat -> Heap -> Prop) : Prop where
 mem : it ∈ fp
 obj : ∀ i h, tn i h -> ∀ b ∈ fp, ∃ o, h.get? b = some o /\ ∀ v, o.data ≠ .cell v
 keep : ∀ i h h', tn i h -> (∀ b ∈ fp, ∀ o, h.get? b = some o -> h'.get? b = some o) -> tn i h'
 item : ∀ (X : Cx), X.prog = P -> X.w = w -> X.K = K -> X.calm = true -> ∀ (i : Nat) (pins : List (Addr × Obj)) (s : Shared) (σ : St) (H : Hp) (E : Value -> Shared -> Prop), Inv X pins σ H s -> (∀ b ∈ fp, FpOk X pins H b) -> tn i s.heap -> J.go i H ->
  wpAny (model P w) X.A (pyNext (.ref it)) (λ r s1 => ∃ u, r = some u /\
   wpAny (model P w) X.A (letOwnedTupleGo tg (.ref it) u) (λ _ s2 => ∃ x H', Inv X pins σ H' s2 /\ RelV x u /\ J.yld i H x H' /\ tn (i + 1) s2.heap /\ ∀ b ∈ fp, H' b = none) E s1) E s
 done : ∀ (X : Cx), X.prog = P -> X.w = w -> X.K = K -> X.calm = true -> ∀ (i : Nat) (pins : List (Addr × Obj)) (s : Shared) (σ : St) (H : Hp) (E : Value -> Shared -> Prop), Inv X pins σ H s -> (∀ b ∈ fp, FpOk X pins H b) -> tn i s.heap -> J.stop i H ->
  wpAny (model P w) X.A (pyNext (.ref it)) (λ r s1 => r = none /\ Inv X pins σ H s1) E s
 self : ∀ (A : Around) (i : Nat) (s : Shared) (Q : Value -> Shared -> Prop) (E : Value -> Shared -> Prop), tn i s.heap -> Q (.ref it) s -> wpAny (model P w) A (pyIter (.ref it)) Q E s
noncomputable abbrev TI := St -> Hp -> (It -> Hp -> Prop) -> Prop
noncomputable def PIE (X : Cx) (pins : List (Addr × Obj)) (σ : St) (tg : Expr) (R : It -> Hp -> Prop) (itv : Value) (s2 : Shared) : Prop :=
 ∃ (it : Addr) (fp : List Addr) (tn : Nat -> Heap -> Prop) (J : It) (H' : Hp), itv = .ref it /\ Inv X pins σ H' s2 /\ Turn X.prog X.w X.K tg J fp it tn /\ tn 0 s2.heap /\ (∀ b ∈ fp, FpOk X pins H' b) /\ R J H'
noncomputable def PI (X : Cx) (tg iter : Expr) (wi : TI) : Prop :=
 ∀ (pins : List (Addr × Obj)) (s : Shared) (σ : St) (H : Hp) (R : It -> Hp -> Prop), Inv X pins σ H s -> wi σ H R ->
  wpAny (model X.prog X.w) X.A (eval iter X.env) (λ v s1 => wpAny (model X.prog X.w) X.A (pyIter v) (PIE X pins σ tg R) X.xe s1) X.xe s
theorem z1j {M : Model} {A : Around} {E : Value -> Shared -> Prop} {s : Shared} {tg : Expr} {it : Addr} {u : Value} {o : Obj} {n : String} {vs : Array Value} {Q : Unit -> Shared -> Prop} (ho : s.heap.get? it = some o) (hc : o.cls = .type n) (hd : o.data = .fields vs)
    (hn : ["enumerate", "zip", "dict_itemiterator", "dict_reverseitemiterator", "odict_iterator", "itertools.zip_longest", "itertools.pairwise"].contains n = false) (hQ : Q () s) : wpAny M A (letOwnedTupleGo tg (.ref it) u) Q E s := by
  unfold letOwnedTupleGo
  cases tg <;> first
    | exact wpAny_pure hQ
    | (cases u <;> first
        | exact wpAny_pure hQ
        | (refine wpAny_bind (wpAny_load ho ?_)
           rw [hc, hd]
           show wpAny M A (if (["enumerate", "zip", "dict_itemiterator", "dict_reverseitemiterator", "odict_iterator", "itertools.zip_longest", "itertools.pairwise"].contains n && vs[0]? == some (rawInt _)) = true then _ else _) Q E s
           rw [if_neg (by intro h; rw [hn, Bool.false_and] at h; cases h)]
           exact wpAny_pure hQ))
noncomputable def Itl (K : PySem.W.Frag) (a : Addr) : It :=
 ⟨λ i H => ∃ xs x, SqL K H a xs /\ xs[i]? = some x, λ i H x H' => H' = H /\ ∀ xs, SqL K H a xs -> xs[i]? = some x, λ i H => ∃ xs, SqL K H a xs /\ xs.length <= i⟩
noncomputable def Itt (K : PySem.W.Frag) (a : Addr) : It :=
 ⟨λ i H => ∃ xs x, SqT K H a xs /\ xs[i]? = some x, λ i H x H' => H' = H /\ ∀ xs, SqT K H a xs -> xs[i]? = some x, λ i H => ∃ xs, SqT K H a xs /\ xs.length <= i⟩
noncomputable def Itr (lo : Int) (n : Nat) : It := ⟨λ i _ => i < n, λ i H x H' => H' = H /\ x = .int (lo + i), λ i _ => n <= i⟩
theorem z0v {P : Program} {w : World} {K : PySem.W.Frag} {tg : Expr} (a it : Addr) : Turn P w K tg (Itl K a) [it] it (λ i h => h.IsListIter it a i) where
 mem := by simp
 obj := λ i h st b hb => by
  have e : b = it := by simpa using hb
  subst e
  obtain ⟨o, e, c, d⟩ := st
  exact ⟨o, e, λ v z => by rw [d] at z; cases z⟩
 keep := λ i h h' st k => st.at λ o e => k it (by simp) o e
 item := by
  intro X hP hw hK hc i pins s σ H E I hf st hg
  subst hP hw hK
  obtain ⟨xs, x, hq, hx⟩ := hg
  obtain ⟨its, rv, p, hz⟩ := I.list hq
  obtain ⟨u, hu, ru⟩ := rv.get hx
  obtain ⟨f0, f1, f2, f3, f4, f5⟩ := hf it (by simp)
  refine wpAny_pyNext_list_item st p.isList (x := u) (by simpa using hu) λ h' st' sb => ?_
  have I1 : Inv X pins σ H { s with heap := h' } := I.turned (t' := s.toks) (λ b o hb e => (sb.2 b hb).trans e) f0 f1 f3 f4 f5
  obtain ⟨o, e, c, d⟩ := id st'
  exact ⟨u, rfl, z1j (s := { s with heap := h' }) e c d (by decide) ⟨x, H, I1, ru, ⟨rfl, λ ys hy => by rw [I.list_inj hy hq]; exact hx⟩, st', λ b hb => (hf b hb).1⟩⟩
 done := by
  intro X hP hw hK hc i pins s σ H E I hf st hg
  subst hP hw hK
  obtain ⟨xs, hq, hx⟩ := hg
  obtain ⟨its, rv, p, hz⟩ := I.list hq
  obtain ⟨f0, f1, f2, f3, f4, f5⟩ := hf it (by simp)
  have hl := rv.length
  exact wpAny_pyNext_list_end (I.ok.hd hc) st p.isList (by simp; omega) λ h' eb => ⟨rfl, I.turned (t' := s.toks) (λ b o hb e => eb b o hb e) f0 f1 f3 f4 f5⟩
 self := λ _ _ _ _ _ st h => wpAny_pyIter_listiter st h
theorem q8M {P : Program} {w : World} {K : PySem.W.Frag} {tg : Expr} (a it : Addr) : Turn P w K tg (Itt K a) [it] it (λ i h => h.IsTupleIter it a i) where
 mem := by simp
 obj := λ i h st b hb => by
  have e : b = it := by simpa using hb
  subst e
  obtain ⟨o, e, c, d⟩ := st
  exact ⟨o, e, λ v z => by rw [d] at z; cases z⟩
 keep := λ i h h' st k => st.at λ o e => k it (by simp) o e
 item := by
  intro X hP hw hK hc i pins s σ H E I hf st hg
  subst hP hw hK
  obtain ⟨xs, x, hq, hx⟩ := hg
  obtain ⟨its, rv, p, hz⟩ := I.tuple hq
  obtain ⟨u, hu, ru⟩ := rv.get hx
  obtain ⟨f0, f1, f2, f3, f4, f5⟩ := hf it (by simp)
  refine wpAny_pyNext_tuple_item st (show s.heap.IsTuple a its.toArray from p) (x := u) (by simpa using hu) λ h' st' sb => ?_
  have I1 : Inv X pins σ H { s with heap := h' } := I.turned (t' := s.toks) (λ b o hb e => (sb.2 b hb).trans e) f0 f1 f3 f4 f5
  obtain ⟨o, e, c, d⟩ := id st'
  exact ⟨u, rfl, z1j (s := { s with heap := h' }) e c d (by decide) ⟨x, H, I1, ru, ⟨rfl, λ ys hy => by rw [I.tuple_inj hy hq]; exact hx⟩, st', λ b hb => (hf b hb).1⟩⟩
 done := by
  intro X hP hw hK hc i pins s σ H E I hf st hg
  subst hP hw hK
  obtain ⟨xs, hq, hx⟩ := hg
  obtain ⟨its, rv, p, hz⟩ := I.tuple hq
  obtain ⟨f0, f1, f2, f3, f4, f5⟩ := hf it (by simp)
  have hl := rv.length
  exact wpAny_pyNext_tuple_end (I.ok.hd hc) st (show s.heap.IsTuple a its.toArray from p) (by simp; omega) λ h' eb => ⟨rfl, I.turned (t' := s.toks) (λ b o hb e => eb b o hb e) f0 f1 f3 f4 f5⟩
 self := λ _ _ _ _ _ st h => wpAny_pyIter_tupleiter st h
theorem q8y {P : Program} {w : World} {K : PySem.W.Frag} {tg : Expr} (it : Addr) (lo : Int) (n : Nat) : Turn P w K tg (Itr lo n) [it] it (λ i h => IsRangeIter h it (lo + (i : Nat) * 1) ((n : Int) - (i : Nat)) 1) where
 mem := by simp
 obj := λ i h st b hb => by
  have e : b = it := by simpa using hb
  subst e
  exact ⟨_, st, λ v z => by
   have z' : Data.fields _ = Data.cell v := z
   cases z'⟩
 keep := λ i h h' st k => k it (by simp) _ st
 item := by
  intro X hP hw hK hc i pins s σ H E I hf st hg
  subst hP hw hK
  obtain ⟨f0, f1, f2, f3, f4, f5⟩ := hf it (by simp)
  have W := Walks.range (prog := X.prog) (w := X.w) (I.ok.hd hc) it lo 1 n
  refine W.item i s _ _ hg st λ v h' tk hv st' kk => ?_
  obtain ⟨t, rfl⟩ := hv
  have I1 : Inv X pins σ H { s with heap := h', toks := tk } := I.turned (λ b o hb e => kk b o (by simpa using hb) e) f0 f1 f3 f4 f5
  refine ⟨_, rfl, z1j (s := { s with heap := h', toks := tk }) (n := "range_iterator") st' rfl rfl (by decide) ⟨.int (lo + i), H, I1, ⟨t, ?_⟩, ⟨rfl, rfl⟩, st', λ b hb => (hf b hb).1⟩⟩
  rw [Int.mul_one]
 done := by
  intro X hP hw hK hc i pins s σ H E I hf st hg
  subst hP hw hK
  obtain ⟨f0, f1, f2, f3, f4, f5⟩ := hf it (by simp)
  exact wpAny_pyNext_range_end (I.ok.hd hc) st (by have : n <= i := hg; omega) λ h' eb => ⟨rfl, I.turned (t' := s.toks) (λ b o hb e => eb b o hb e) f0 f1 f3 f4 f5⟩
 self := λ _ _ _ _ _ st h => wpAny_pyIter_rangeiter st h
end L2
namespace L2
open PySem PySem.Spec PyProof.Rows
section
variable {X : Cx} {tg : Expr}
noncomputable def z7M (K : PySem.W.Frag) (tl : TE) : TI := λ σ H R => tl σ H λ x H1 => ∃ a, x = .ref a /\ (∃ xs, SqL K H1 a xs) /\ R (Itl K a) H1
noncomputable def iTup (K : PySem.W.Frag) (tl : TE) : TI := λ σ H R => tl σ H λ x H1 => ∃ a, x = .ref a /\ (∃ xs, SqT K H1 a xs) /\ R (Itt K a) H1
theorem q7l {l : Expr} {tl : TE} (hl : PE X l tl) : PI X tg l (z7M X.K tl) := by
 intro pins s σ H R I h
 refine thn (hl pins s σ H _ I h) λ v s1 ⟨x, H1, I1, r1, q1⟩ => ?_
 obtain ⟨a, e, ⟨xs, hq⟩, q⟩ := q1
 subst e
 cases r1
 obtain ⟨its, rv, p, hz⟩ := I1.list hq
 refine wpAny_pyIter_list p.isList ?_
 refine ⟨s1.heap.objs.size, [s1.heap.objs.size], _, _, H1, rfl, I1.kept (t' := s1.toks) λ b o e => Heap.get?_push_of_some _ e, z0v a _, ⟨_, Heap.get?_push_size _ rfl, rfl, rfl⟩, λ b hb => ?_, q⟩
 have e : b = s1.heap.objs.size := by simpa using hb
 subst e
 exact I1.fpOk (Nat.le_refl _) (I1.hok.fresh (Nat.le_refl _))
theorem z6h {l : Expr} {tl : TE} (hl : PE X l tl) : PI X tg l (iTup X.K tl) := by
 intro pins s σ H R I h
 refine thn (hl pins s σ H _ I h) λ v s1 ⟨x, H1, I1, r1, q1⟩ => ?_
 obtain ⟨a, e, ⟨xs, hq⟩, q⟩ := q1
 subst e
 cases r1
 obtain ⟨its, rv, p, hz⟩ := I1.tuple hq
 refine wpAny_pyIter_tuple (show s1.heap.IsTuple a its.toArray from p) ?_
 refine ⟨s1.heap.objs.size, [s1.heap.objs.size], _, _, H1, rfl, I1.kept (t' := s1.toks) λ b o e => Heap.get?_push_of_some _ e, q8M a _, ⟨_, Heap.get?_push_size _ rfl, rfl, rfl⟩, λ b hb => ?_, q⟩
 have e : b = s1.heap.objs.size := by simpa using hb
 subst e
 exact I1.fpOk (Nat.le_refl _) (I1.hok.fresh (Nat.le_refl _))
theorem q7S {pins : List (Addr × Obj)} {σ : St} {H : Hp} {s : Shared} {R : It -> Hp -> Prop} {E : Value -> Shared -> Prop} {lo hi : Int} {t u v : Tok} {tk : Nat} (I : Inv X pins σ H s) (h1 : -(2 ^ 62) <= lo) (h2 : lo < 2 ^ 62) (h3 : -(2 ^ 62) <= hi) (h4 : hi < 2 ^ 62)
  (q : R (Itr lo (hi - lo).toNat) H) : wpAny (model X.prog X.w) X.A (pyIter (.ref s.heap.objs.size)) (PIE X pins σ tg R) E { s with heap := s.heap.push { cls := .type "range", data := .fields #[.int lo t, .int hi u, .int 1 v] }, toks := tk } := by
 refine wpAny_pyIter_range (IsRange.new ..) (small_one h1 h2 h3 h4) ?_
 have I1 : Inv X pins σ H { s with heap := s.heap.push { cls := .type "range", data := .fields #[.int lo t, .int hi u, .int 1 v] }, toks := tk } := I.kept λ b o e => Heap.get?_push_of_some _ e
 refine ⟨(s.heap.push { cls := .type "range", data := .fields #[.int lo t, .int hi u, .int 1 v] }).objs.size, [(s.heap.push { cls := .type "range", data := .fields #[.int lo t, .int hi u, .int 1 v] }).objs.size], _, _, H, rfl,
  I1.kept (t' := tk) λ b o e => Heap.get?_push_of_some _ e, q8y _ lo (hi - lo).toNat, ?_, λ b hb => ?_, q⟩
 ·have e1 : lo + ((0 : Nat) : Int) * 1 = lo := by simp
  have e2 : (((hi - lo).toNat : Nat) : Int) - ((0 : Nat) : Int) = Builtin.Range.rangeSize lo hi 1 := by rw [rangeSize_one]; split <;> omega
  show IsRangeIter _ _ (lo + ((0 : Nat) : Int) * 1) ((((hi - lo).toNat : Nat) : Int) - ((0 : Nat) : Int)) 1
  rw [e1, e2]
  exact Heap.get?_push_size _ rfl
 ·have e : b = (s.heap.push { cls := .type "range", data := .fields #[.int lo t, .int hi u, .int 1 v] }).objs.size := by simpa using hb
  subst e
  exact I1.fpOk (Nat.le_refl _) (I1.hok.fresh (Nat.le_refl _))
noncomputable def z6U (ta : TA) : TI := λ σ H R => ta σ H λ vs H1 => ∃ j : Int, vs = [.int j] /\ -(2 ^ 62) <= j /\ j < 2 ^ 62 /\ R (Itr 0 j.toNat) H1
noncomputable def z7x (ta : TA) : TI := λ σ H R => ta σ H λ vs H1 => ∃ i j : Int, vs = [.int i, .int j] /\ (-(2 ^ 62) <= i /\ i < 2 ^ 62 /\ -(2 ^ 62) <= j /\ j < 2 ^ 62) /\ R (Itr i (j - i).toNat) H1
theorem z0l {a : Expr} {ta : TA} {p pos : Pos} (hg : Gl X "range") (hm : X.mg "range" = none) (ha : PA X [a] ta) (hs : starEach [a] X.env = [(false, eval a X.env)] := by rfl) : PI X tg (.Call (.Name "range" p) [a] [] pos) (z6U ta) := by
 intro pins s σ H R I h
 refine Call_ (q4V I hg hm boot_range (PyProof.Rows.callWith_type1 (thn (ha pos pins s σ H _ I h) λ us s1 ⟨vs, H1, I1, r1, q1⟩ => ?_) hs rfl))
 obtain ⟨j, e, q1, q2, q⟩ := q1
 subst e
 cases r1 with
 | cons r rr =>
  cases rr
  obtain ⟨t, rfl⟩ := r
  exact call_range_1 (q7S I1 (by omega) (by omega) q1 q2 (by simpa using q))
theorem z0B {a b : Expr} {ta : TA} {p pos : Pos} (hg : Gl X "range") (hm : X.mg "range" = none) (ha : PA X [a, b] ta) (hs : starEach [a, b] X.env = [(false, eval a X.env), (false, eval b X.env)] := by rfl) (hs2 : starEach [b] X.env = [(false, eval b X.env)] := by rfl) :
  PI X tg (.Call (.Name "range" p) [a, b] [] pos) (z7x ta) := by
 intro pins s σ H R I h
 refine Call_ (q4V I hg hm boot_range (PyProof.Rows.callWith_type1 (thn (ha pos pins s σ H _ I h) λ us s1 ⟨vs, H1, I1, r1, q1⟩ => ?_) (by rw [hs, hs2]) (by rw [hs2]; rfl)))
 obtain ⟨i, j, e, ⟨q1, q2, q3, q4⟩, q⟩ := q1
 subst e
 cases r1 with
 | cons r rr =>
  cases rr with
  | cons r' rr =>
   cases rr
   obtain ⟨t, rfl⟩ := r
   obtain ⟨t', rfl⟩ := r'
   exact call_range_2 (q7S I1 q1 q2 q3 q4 q)
noncomputable def tFor (wi : TI) (g : TG) (tb : TS) : TS := λ D σ H => wi σ H λ J H1 => ∃ W : Nat -> Nat -> St -> Hp -> Prop, (∃ m, W 0 m σ H1) /\ ∀ i m σ H, W i m σ H ->
 (J.stop i H /\ D.nx σ H) \/ (J.go i H /\ ∃ N : St -> Hp -> Prop, (∀ σ' H', N σ' H' -> ∃ m', m' < m /\ W (i + 1) m' σ' H') /\ ∀ x H', J.yld i H x H' -> g x σ H' λ σ2 H2 => tb { D with nx := N, ct := N, bk := D.nx } σ2 H2)
noncomputable def q5S (fp : List Addr) (h : Heap) : List (Addr × Obj) := fp.filterMap λ b => (h.get? b).map λ o => (b, o)
theorem q2G {fp : List Addr} {h : Heap} {b : Addr} {o : Obj} (hb : b ∈ fp) (e : h.get? b = some o) : (b, o) ∈ q5S fp h := List.mem_filterMap.mpr ⟨b, hb, by rw [e]; rfl⟩
theorem q9b {fp : List Addr} {h : Heap} {p : Addr × Obj} (hp : p ∈ q5S fp h) : p.1 ∈ fp /\ h.get? p.1 = some p.2 := by
 obtain ⟨b, hb, e⟩ := List.mem_filterMap.mp hp
 cases q : h.get? b with
 | none => rw [q] at e; cases e
 | some o =>
  rw [q] at e
  have e' : (b, o) = p := Option.some.inj e
  subst e'
  exact ⟨hb, q⟩
theorem Inv.pinned {pins : List (Addr × Obj)} {σ : St} {H : Hp} {s : Shared} {fp : List Addr} (I : Inv X pins σ H s) (hf : ∀ b ∈ fp, FpOk X pins H b) (ho : ∀ b ∈ fp, ∃ o, s.heap.get? b = some o /\ ∀ v, o.data ≠ .cell v) : Inv X (pins ++ q5S fp s.heap) σ H s :=
 I.pins_of λ p hp => (List.mem_append.mp hp).elim (λ z => I.pin p (List.mem_append_right _ z)) λ z => by
  obtain ⟨hb, e⟩ := q9b z
  obtain ⟨f0, f1, f2, _⟩ := hf p.1 hb
  obtain ⟨o, e', d⟩ := ho p.1 hb
  rw [e] at e'; cases e'
  exact ⟨e, f0, f1, f2, d⟩
theorem Inv.unpinned {pins pl : List (Addr × Obj)} {σ : St} {H : Hp} {s : Shared} (I : Inv X (pins ++ pl) σ H s) : Inv X pins σ H s := I.pins_of λ p hp => I.pin p (List.mem_append_right _ (List.mem_append_left _ hp))
theorem z2z {iter : Expr} {body : List Stmt} {wi : TI} {g : TG} {tb : TS} {pos : Pos} (hp : PassesOwn (model X.prog X.w) X.A X.env X.xe) (hc : X.calm = true) (hi : PI X tg iter wi) (hg : PG X tg g) (hb : PSs X body tb)
  (hs : ∀ x, foldedSetIterable iter X.env x = pure x := by intro _; rfl) : PS X (.For tg iter body [] pos) (tFor wi g tb) := by
 intro pins s σ H D I h
 refine wpAny_For (thn (hi pins s σ H _ I h) λ v s1 h1 => thn h1 λ itv s2 h2 => ?_) hs
 obtain ⟨it, fp, tn, J, H2, e, I2, T, st2, f2, W, ⟨m0, w0⟩, turn⟩ := h2
 subst e
 have stat : ∀ {H' : Hp}, (∀ b ∈ fp, H' b = none) -> ∀ b ∈ fp, FpOk X pins H' b := λ hn b hb => ⟨hn b hb, (f2 b hb).2⟩
 refine codeAny_forLoop_any (λ n s' => ∃ i σ' H', Inv X pins σ' H' s' /\ tn i s'.heap /\ (∀ b ∈ fp, H' b = none) /\ W i n σ' H') ?_ m0 ⟨0, σ, H2, I2, st2, λ b hb => (f2 b hb).1, w0⟩
 rintro n s3 ⟨i, σ3, H3, I3, st3, fr3, w3⟩
 rcases turn i n σ3 H3 w3 with ⟨stop, qn⟩ | ⟨go, N, hN, step⟩
 ·refine wpAny_passesOwn hp (thn (T.done X rfl rfl rfl hc i pins s3 σ3 H3 X.xe I3 (stat fr3) st3 stop) λ r s4 ⟨hr, I4⟩ => ?_)
  subst hr
  exact wpAny_execs_nil ⟨σ3, H3, I4, qn⟩
 ·refine wpAny_passesOwn hp (thn (T.item X rfl rfl rfl hc i pins s3 σ3 H3 X.xe I3 (stat fr3) st3 go) λ r s4 ⟨u, hr, h4⟩ => ?_)
  subst hr
  refine wpAny_passesOwn hp (thn h4 λ _ s5 ⟨x, H5, I5, r5, y5, st5, fr5⟩ => ?_)
  have I5' := I5.pinned (stat fr5) (T.obj _ _ st5)
  refine wpAny_passesOwn hp (thn (hg _ s5 σ3 H5 x u _ I5' r5 (step x H5 y5)) λ _ s6 ⟨σ6, H6, I6, q6⟩ => ?_)
  refine wpAny_passesOwn hp (thn (hb _ s6 σ6 H6 _ I6 q6) λ f s7 q7 => ?_)
  have again : ∀ {σ7 : St} {H7 : Hp}, Inv X (pins ++ q5S fp s5.heap) σ7 H7 s7 -> N σ7 H7 -> ∃ m, m < n /\ ∃ i σ' H', Inv X pins σ' H' s7 /\ tn i s7.heap /\ (∀ b ∈ fp, H' b = none) /\ W i m σ' H' := λ {σ7 H7} I7 n7 => by
   obtain ⟨m', hm, w7⟩ := hN σ7 H7 n7
   refine ⟨m', hm, i + 1, σ7, H7, I7.unpinned, T.keep _ _ _ st5 λ b hb o e => (I7.pin (b, o) (List.mem_append_right _ (List.mem_append_right _ (q2G hb e)))).1, λ b hb => ?_, w7⟩
   obtain ⟨o, e, d⟩ := T.obj _ _ st5 b hb
   exact (I7.pin (b, o) (List.mem_append_right _ (List.mem_append_right _ (q2G hb e)))).2.1
  cases f with
  | next => obtain ⟨σ7, H7, I7, n7⟩ := q7; exact again I7 n7
  | cont => obtain ⟨σ7, H7, I7, n7⟩ := q7; exact again I7 n7
  | brk => obtain ⟨σ7, H7, I7, q7⟩ := q7; exact ⟨σ7, H7, I7.unpinned, q7⟩
  | ret v => obtain ⟨x7, σ7, H7, I7, r7, q7⟩ := q7; exact ⟨x7, σ7, H7, I7.unpinned, r7, q7⟩
end
end L2
namespace L2
open PySem PySem.Spec PyProof.Rows
noncomputable abbrev R2 := V -> V -> Hp -> VK -> Prop
noncomputable def OpR (X : Cx) (f : Value -> Value -> Sem Value) (r : R2) : Prop :=
 ∀ (pins : List (Addr × Obj)) (s : Shared) (σ : St) (H : Hp) (x y : V) (v u : Value) (Q : VK), Inv X pins σ H s -> RelV x v -> RelV y u -> r x y H Q ->
  wpAny (model X.prog X.w) X.A (f v u) (EP X pins σ Q) X.xe s
noncomputable def q1o (X : Cx) (f : Value) (r : List V -> Hp -> VK -> Prop) : Prop :=
 ∀ (pins : List (Addr × Obj)) (s : Shared) (σ : St) (H : Hp) (xs : List V) (us : List Value) (Q : VK), Inv X pins σ H s -> Vals xs us -> r xs H Q ->
  wpAny (model X.prog X.w) X.A (call f us) (EP X pins σ Q) X.xe s
noncomputable def TruR (X : Cx) (r : V -> Hp -> (Bool -> Hp -> Prop) -> Prop) : Prop :=
 ∀ (pins : List (Addr × Obj)) (s : Shared) (σ : St) (H : Hp) (x : V) (v : Value) (Q : Bool -> Hp -> Prop), Inv X pins σ H s -> RelV x v -> r x H Q ->
  wpAny (model X.prog X.w) X.A (truthy v) (TP X pins σ Q) X.xe s
noncomputable def tOp (r : R2) (ta tb : TE) : TE := λ σ H Q => ta σ H λ x H1 => tb σ H1 λ y H2 => r x y H2 Q
noncomputable def tUn (r : V -> Hp -> VK -> Prop) (ta : TE) : TE := λ σ H Q => ta σ H λ x H1 => r x H1 Q
noncomputable def rI (C : Int -> Int -> Prop) (g : Int -> Int -> V) : R2 := λ x y H Q => ∃ i j, x = .int i /\ y = .int j /\ C i j /\ Q (g i j) H
noncomputable def rI0 (g : Int -> Int -> V) : R2 := λ x y H Q => ∃ i j, x = .int i /\ y = .int j /\ Q (g i j) H
section
variable {X : Cx} {a b c : Expr} {ta tb tc : TE} {pos : Pos}
theorem binT (ha : PE X a ta) (hb : PE X b tb) {pins : List (Addr × Obj)} {s : Shared} {σ : St} {H : Hp} {R : V -> V -> Hp -> Prop} (I : Inv X pins σ H s)
  (h : ta σ H λ x H1 => tb σ H1 λ y H2 => R x y H2) {Q : Value -> Shared -> Prop} {f : Value -> Value -> Sem Value}
  (hf : ∀ v u s2 x y H2, Inv X pins σ H2 s2 -> RelV x v -> RelV y u -> R x y H2 -> wpAny (model X.prog X.w) X.A (f v u) Q X.xe s2) :
  wpAny (model X.prog X.w) X.A (eval a X.env) (λ v sA => wpAny (model X.prog X.w) X.A (eval b X.env) (λ u sB => wpAny (model X.prog X.w) X.A (f v u) Q X.xe sB) X.xe sA) X.xe s := by
 refine thn (ha pins s σ H _ I h) λ v s1 ⟨x, H1, I1, r1, q1⟩ => ?_
 refine thn (hb pins s1 σ H1 _ I1 q1) λ u s2 ⟨y, H2, I2, r2, q2⟩ => ?_
 exact hf v u s2 x y H2 I2 r1 r2 q2
theorem z7a {op : Operator} {r : R2} (ho : OpR X (binaryOp op) r) (ha : PE X a ta) (hb : PE X b tb) : PE X (.BinOp a op b pos) (tOp r ta tb) := by
 intro pins s σ H Q I h
 exact wpAny_BinOp (binT ha hb I h λ v u s2 x y H2 I2 rx ry q => ho pins s2 σ H2 x y v u Q I2 rx ry q)
theorem opI {f : Value -> Value -> Sem Value} {C : Int -> Int -> Prop} {g : Int -> Int -> Int}
  (rule : ∀ (i j : Int) (t u : Tok) (s : Shared) (Q : Value -> Shared -> Prop) (E : Value -> Shared -> Prop), C i j -> Q (.int (g i j) s.toks) { s with toks := s.toks + 1 } -> wpAny (model X.prog X.w) X.A (f (.int i t) (.int j u)) Q E s) :
  OpR X f (rI C λ i j => .int (g i j)) := by
 intro pins s σ H x y v u Q I rx ry h
 obtain ⟨i, j, rfl, rfl, hc, q⟩ := h
 obtain ⟨t, rfl⟩ := rx
 obtain ⟨t', rfl⟩ := ry
 exact rule i j t t' s _ _ hc ⟨.int (g i j), H, I.tok _, ⟨_, rfl⟩, q⟩
theorem opI0 {f : Value -> Value -> Sem Value} {g : Int -> Int -> Int}
  (rule : ∀ (i j : Int) (t u : Tok) (s : Shared) (Q : Value -> Shared -> Prop) (E : Value -> Shared -> Prop), Q (.int (g i j) s.toks) { s with toks := s.toks + 1 } -> wpAny (model X.prog X.w) X.A (f (.int i t) (.int j u)) Q E s) :
  OpR X f (rI0 λ i j => .int (g i j)) := by
 intro pins s σ H x y v u Q I rx ry h
 obtain ⟨i, j, rfl, rfl, q⟩ := h
 obtain ⟨t, rfl⟩ := rx
 obtain ⟨t', rfl⟩ := ry
 exact rule i j t t' s _ _ ⟨.int (g i j), H, I.tok _, ⟨_, rfl⟩, q⟩
theorem opB0 {f : Value -> Value -> Sem Value} {g : Int -> Int -> Bool}
  (rule : ∀ (i j : Int) (t u : Tok) (s : Shared) (Q : Value -> Shared -> Prop) (E : Value -> Shared -> Prop), Q (.bool (g i j)) s -> wpAny (model X.prog X.w) X.A (f (.int i t) (.int j u)) Q E s) :
  OpR X f (rI0 λ i j => .bl (g i j)) := by
 intro pins s σ H x y v u Q I rx ry h
 obtain ⟨i, j, rfl, rfl, q⟩ := h
 obtain ⟨t, rfl⟩ := rx
 obtain ⟨t', rfl⟩ := ry
 exact rule i j t t' s _ _ ⟨.bl (g i j), H, I, rfl, q⟩
noncomputable def CDiv (i j : Int) : Prop := 0 < j /\ j < 1073741824
noncomputable def CMul (i j : Int) : Prop := (-(2 ^ 64) < i /\ i < 2 ^ 64) \/ (-(2 ^ 64) < j /\ j < 2 ^ 64)
theorem CMul.ok {i j : Int} (h : CMul i j) : IntMulOk i j := by
 rcases h with ⟨h1, h2⟩ | ⟨h1, h2⟩
 ·exact .of_left (intBits_le_64 h1 h2)
 ·exact .of_right (intBits_le_64 h1 h2)
theorem q8A (k : Nat) : (0 : Int) <= 2 ^ k := by
 rw [two_pow_cast]
 exact Int.natCast_nonneg _
theorem z6d : OpR X (binaryOp .Add) (rI0 λ i j => .int (i + j)) := opI0 λ _ _ _ _ _ _ _ q => add_int q
theorem z6i : OpR X (binaryOp .Sub) (rI0 λ i j => .int (i - j)) := opI0 λ _ _ _ _ _ _ _ q => sub_int q
theorem z6m : OpR X (binaryOp .Mult) (rI CMul λ i j => .int (i * j)) := opI λ _ _ _ _ _ _ _ hc q => mul_int q hc.ok
theorem z3b : OpR X (binaryOp .FloorDiv) (rI CDiv λ i j => .int (i / j)) := opI λ i j _ _ _ _ _ hc q => by
 have h1 : (0 : Int) < j := hc.1
 have h2 : j < 1073741824 := hc.2
 exact floordiv_int (by omega) (by rw [Int.fdiv_eq_ediv_of_nonneg i (by omega)]; exact q) (.inl (PyProof.noPylong_small (by omega)))
theorem z6D : OpR X (binaryOp .Mod) (rI (λ _ j => 0 < j) λ i j => .int (i % j)) := opI λ i j _ _ _ _ _ hc q => by
 have h1 : (0 : Int) < j := hc
 exact mod_int' (by omega) (by rw [Int.fmod_eq_emod_of_nonneg i (by omega)]; exact q)
theorem z6n : OpR X (binaryOp .RShift) (rI (λ _ j => 0 <= j) λ i j => .int (i / 2 ^ j.toNat)) := opI λ i j _ _ _ _ _ hc q =>
 rshift_int hc (by rw [Int.fdiv_eq_ediv_of_nonneg i (q8A _)]; exact q)
end
section
variable {X : Cx} {a b c : Expr} {ta tb tc : TE} {pos : Pos}
theorem z6f {pins : List (Addr × Obj)} {σ : St} {H : Hp} {s : Shared} {Q : VK} {k k' : Bool} (I : Inv X pins σ H s) (q : Q (.bl k) H) (e : k = k') : EP X pins σ Q (.bool k') s := by
 subst e
 exact ⟨.bl k, H, I, rfl, q⟩
theorem z7D : OpR X (compareOp .Lt) (rI0 λ i j => .bl (decide (i < j))) := opB0 λ _ _ _ _ _ _ _ q => lt_int q
theorem z7w : OpR X (compareOp .LtE) (rI0 λ i j => .bl (decide (i <= j))) := opB0 λ _ _ _ _ _ _ _ q => le_int q
theorem z7Q : OpR X (compareOp .GtE) (rI0 λ i j => .bl (decide (j <= i))) := opB0 λ _ _ _ _ _ _ _ q => ge_int q
theorem z5a : OpR X (compareOp .Is) (λ x y H Q => y = .non /\ Q (.bl (decide (x = .non))) H) := by
 intro pins s σ H x y v u Q I rx ry h
 obtain ⟨rfl, q⟩ := h
 cases ry
 refine is_none_gen (z6f I q ?_)
 cases x <;> first
  | (cases rx; rfl)
  | (obtain ⟨t, rfl⟩ := rx; rfl)
theorem OpR.or {f : Value -> Value -> Sem Value} {r r' : R2} (h : OpR X f r) (h' : OpR X f r') : OpR X f (λ x y H Q => r x y H Q \/ r' x y H Q) := by
 intro pins s σ H x y v u Q I rx ry q
 rcases q with q | q
 ·exact h pins s σ H x y v u Q I rx ry q
 ·exact h' pins s σ H x y v u Q I rx ry q
theorem z8i (b : Expr) {op : CmpOp} (h : op ≠ .In := by decide) (h2 : op ≠ .NotIn := by decide) : behindInMarks op b = false := by
 have e1 : (op == CmpOp.In) = false := by cases op <;> first | rfl | exact absurd rfl h
 have e2 : (op == CmpOp.NotIn) = false := by cases op <;> first | rfl | exact absurd rfl h2
 cases b <;> simp [behindInMarks, e1, e2]
theorem z4j {op : CmpOp} {r : R2} (ho : OpR X (compareOp op) r) (ha : PE X a ta) (hb : PE X b tb) (hm : behindInMarks op b = false) : PE X (.Compare a [op] [b] pos) (tOp r ta tb) := by
 intro pins s σ H Q I h
 exact wpAny_Compare1 (binT ha hb I h λ v u s2 x y H2 I2 rx ry q => ho pins s2 σ H2 x y v u Q I2 rx ry q) hm
noncomputable def z7B (t : TE) : TT := λ σ H Q => t σ H λ x H' => ∃ k, x = .bl k /\ Q k H'
theorem z3A {op : CmpOp} {r : R2} (ho : OpR X (compareOp op) r) (ha : PE X a ta) (hb : PE X b tb) (hm : behindInMarks op b = false) : PT X (.Compare a [op] [b] pos) (z7B (tOp r ta tb)) := by
 intro pins s σ H Q I h
 refine wpAny_isTrue_Compare1 (thn (ha pins s σ H _ I h) λ v s1 ⟨x, H1, I1, r1, q1⟩ => thn (hb pins s1 σ H1 _ I1 q1) λ u s2 ⟨y, H2, I2, r2, q2⟩ =>
  thn (ho pins s2 σ H2 x y v u _ I2 r1 r2 q2) λ c s3 ⟨z, H3, I3, r3, k, e, q3⟩ => ?_) hm
 subst e
 cases r3
 exact wpAny_truthy_bool ⟨H3, I3, q3⟩
noncomputable def TruV (K : PySem.W.Frag) (x : V) (H : Hp) (k : Bool) : Prop :=
 match x with
 | .non => k = false
 | .bl b => k = b
 | .int i => k = (i != 0)
 | .str y => y.length <= sizeLine /\ k = ((y.length : Int) != 0)
 | .byt y => y.size <= sizeLine /\ k = ((y.size : Int) != 0)
 | .ref p => (∃ xs, SqL K H p xs /\ k = !xs.isEmpty) \/ (∃ xs, SqT K H p xs /\ k = !xs.isEmpty) \/ ∃ kvs, H p = some (.dK kvs) /\ k = !kvs.isEmpty
 | _ => False
theorem q8l {κ : Type} {kvs : List (κ × V)} {vs : List (κ × Value)} (r : KV kvs vs) : (!vs.isEmpty) = !kvs.isEmpty := by
 cases r <;> rfl
theorem q5b {xs : List V} {its : List Value} (r : Vals xs its) : (!its.toArray.isEmpty) = !xs.isEmpty := by
 cases r <;> simp
theorem q4B : (sizeLine : Nat) < 2 ^ 63 := by rw [sizeLine_eq]; decide
theorem q7O : TruR X (λ x H Q => ∃ k, TruV X.K x H k /\ Q k H) := by
 intro pins s σ H x v Q I rx h
 obtain ⟨k, e, q⟩ := h
 have hl := q4B
 have hs : sizeLine = 16777216 := sizeLine_eq
 cases x with
 | non =>
  cases rx
  have e' : k = false := e
  subst e'
  exact truthy_none ⟨H, I, q⟩
 | bl b =>
  cases rx
  have e' : k = b := e
  subst e'
  exact wpAny_truthy_bool ⟨H, I, q⟩
 | int i =>
  obtain ⟨t, rfl⟩ := rx
  have e' : k = (i != 0) := e
  subst e'
  exact PySem.P.truthy_int ⟨H, I, q⟩
 | str y =>
  obtain ⟨t, rfl⟩ := rx
  obtain ⟨hy, e'⟩ : y.length <= sizeLine /\ k = ((y.length : Int) != 0) := e
  subst e'
  exact PySem.P.truthy_str (by omega) ⟨H, I.tok _, q⟩
 | byt y =>
  obtain ⟨t, rfl⟩ := rx
  obtain ⟨hy, e'⟩ : y.size <= sizeLine /\ k = ((y.size : Int) != 0) := e
  subst e'
  exact PySem.W.truthy_bytes (by omega) ⟨H, I.tok _, q⟩
 | ref p =>
  cases rx
  have e' : (∃ xs, SqL X.K H p xs /\ k = !xs.isEmpty) \/ (∃ xs, SqT X.K H p xs /\ k = !xs.isEmpty) \/ ∃ kvs, H p = some (.dK kvs) /\ k = !kvs.isEmpty := e
  rcases e' with ⟨xs, hx, e'⟩ | ⟨xs, hx, e'⟩ | ⟨kvs, hx, e'⟩
  ·subst e'
   obtain ⟨its, r, pl, hz⟩ := I.list hx
   have hlen := r.length
   exact wpAny_truthy_list pl.isList (by simp only [List.size_toArray]; omega) ⟨H, I.tok _, by rw [q5b r]; exact q⟩
  ·subst e'
   obtain ⟨its, r, pl, hz⟩ := I.tuple hx
   have hlen := r.length
   exact truthy_tuple pl (by simp only [List.size_toArray]; omega) ⟨H, I.tok _, by rw [q5b r]; exact q⟩
  ·subst e'
   obtain ⟨hz, hS, vs, r, m⟩ : kvs.length <= sizeLine /\ (p == sysModules) = false /\ ∃ vs, KV kvs vs /\ s.heap.DictOf (q6Q X.prog X.w) p vs := I.hok p _ hx
   have hlen : kvs.length = vs.length := Paired.length r
   exact wpAny_truthy_dict hS m (by omega) ⟨H, I.tok _, by rw [q8l r]; exact q⟩
 | _ => exact (show False from e).elim
theorem q7w (ha : PE X a ta) (he : ∀ whole, isTrue a X.env whole = (do let v <- whole; standAt a.pos; holding [v] (truthy v))) :
  PT X a (λ σ H Q => ta σ H λ x H' => ∃ k, TruV X.K x H' k /\ Q k H') := by
 intro pins s σ H Q I h
 exact isTrue_plain (thn (ha pins s σ H _ I h) λ v s1 ⟨x, H1, I1, r1, q1⟩ => q7O pins s1 σ H1 x v Q I1 r1 q1) (he _)
theorem q3S {x : V} {us : List Value} (r : Vals [x] us) : ∃ u, us = [u] /\ RelV x u := by
 cases r with
 | cons r1 r2 => cases r2; exact ⟨_, rfl, r1⟩
theorem q7d {x y : V} {us : List Value} (r : Vals [x, y] us) : ∃ u w', us = [u, w'] /\ RelV x u /\ RelV y w' := by
 cases r with
 | cons r1 r2 =>
  cases r2 with
  | cons r3 r4 => cases r4; exact ⟨_, _, rfl, r1, r3⟩
theorem z0n (hc : X.calm = true) : q1o X (.builtin "max") (λ xs H Q => ∃ i j, xs = [.int i, .int j] /\ Q (.int (if j > i then j else i)) H) := by
 intro pins s σ H xs us Q I r h
 obtain ⟨i, j, rfl, q⟩ := h
 obtain ⟨u, w', rfl, ⟨t, rfl⟩, ⟨t', rfl⟩⟩ := q7d r
 refine max_two_ints (I.ok.hd hc) λ h' tk k => ⟨_, H, I.kept k, ?_, q⟩
 by_cases hj : j > i
 ·rw [if_pos hj, if_pos hj]; exact ⟨_, rfl⟩
 ·rw [if_neg hj, if_neg hj]; exact ⟨_, rfl⟩
theorem z0b (hc : X.calm = true) : q1o X (.builtin "min") (λ xs H Q => ∃ i j, xs = [.int i, .int j] /\ Q (.int (if j < i then j else i)) H) := by
 intro pins s σ H xs us Q I r h
 obtain ⟨i, j, rfl, q⟩ := h
 obtain ⟨u, w', rfl, ⟨t, rfl⟩, ⟨t', rfl⟩⟩ := q7d r
 refine min_two_ints (I.ok.hd hc) λ h' tk k => ⟨_, H, I.kept k, ?_, q⟩
 by_cases hj : j < i
 ·rw [if_pos hj, if_pos hj]; exact ⟨_, rfl⟩
 ·rw [if_neg hj, if_neg hj]; exact ⟨_, rfl⟩
theorem q6p : q1o X (.type "int") (λ xs H Q => (∃ i, xs = [.int i] /\ Q (.int i) H) \/ ∃ k, xs = [.bl k] /\ Q (.int (if k then 1 else 0)) H) := by
 intro pins s σ H xs us Q I r h
 rcases h with ⟨i, rfl, q⟩ | ⟨k, rfl, q⟩
 ·obtain ⟨u, rfl, t, rfl⟩ := q3S r
  exact call_int_int ⟨.int i, H, I, ⟨_, rfl⟩, q⟩
 ·obtain ⟨u, rfl, r1⟩ := q3S r
  cases r1
  exact call_int_bool ⟨.int (if k then 1 else 0), H, I.tok _, ⟨_, rfl⟩, q⟩
end
end L2
namespace L2
open PySem PySem.Spec PyProof.Rows
structure ObjM (h : Heap) (x dx C : Addr) (mA : Str -> Option Value) : Prop where
 obj : h.get? x = some (PySem.W.instObj C dx)
 ns : h.Ns1 dx mA
 ne : dx ≠ x
section
variable {prog : Program} {w : World} {A : Around} {E : Value -> Shared -> Prop} {s : Shared} {K : PySem.W.Frag} {x dx C f : Addr} {mA : Str -> Option Value} {name : Str} {v : Value}
end
section
variable {P : Program} {w : World} {H H' : Hp} {h h' : Heap} {a C dx : Addr} {fs fs' : List (Str × V)}
theorem z0S (hok : HOk P w H h) (e : H a = some (.ins C dx fs)) : ∃ mA, ObjM h a dx C mA /\ (∀ f, RelO (fs.lookup f) (mA f)) /\ PySem.Within mA (fs.map (·.1)) /\ fs.length <= 1000 /\ H dx = some (.own a) := by
 obtain ⟨d, z, ne, ob, mA, n, r, q⟩ := (show q1v P w H h a (.ins C dx fs) from hok a _ e)
 exact ⟨mA, ⟨ob, n, ne⟩, r, q, z, d⟩
end
structure Cls (K : PySem.W.Frag) (C : Addr) : Prop where
 pg : PySem.W.plainGet K C Str.empty = true
 hd : PySem.W.hasDictIn K C = true
 po : PySem.W.plainOver K C = true
 sa : PySem.W.findIn K (.ref C) "__setattr__" = some (some (.builtin "object.__setattr__"))
structure Con (K : PySem.W.Frag) (C : Addr) (f : Str) (v : V) (u : Value) : Prop where
 at_ : PySem.W.findIn K (.ref C) f = some (some u)
 rel : RelV v u
 get : PySem.W.specialIn K u "__get__" = some none
 cp : PySem.W.copiedNames.contains f = false
structure Meth (K : PySem.W.Frag) (C : Addr) (m : Str) (f : Addr) : Prop where
 at_ : PySem.W.findIn K (.ref C) m = some (some (.ref f))
 fn : PySem.W.isFn K (.ref f) = true
 kp : PySem.W.keepIn K (.ref f) = true
section
variable {X : Cx} {pins : List (Addr × Obj)} {σ : St} {H : Hp} {s : Shared} {a C dx : Addr} {fs : List (Str × V)} {f : Str} {v : V} {A : Around} {E : Value -> Shared -> Prop}
end
section
variable {X : Cx} {o e value : Expr} {f : Str} {pos pos' tpos : Pos} {ta tv : TE}
end
section
variable {X : Cx} {pins : List (Addr × Obj)} {σ : St} {H : Hp} {s : Shared} {A : Around} {E : Value -> Shared -> Prop} {Q : Value -> Shared -> Prop} {c : Value} {b : Bool}
inductive TyOf (K : PySem.W.Frag) (H : Hp) : V -> Value -> Prop where
 | non : TyOf K H .non (.type "NoneType")
 | bl (x : Bool) : TyOf K H (.bl x) (.type "bool")
 | int (i : Int) : TyOf K H (.int i) (.type "int")
 | str (x : Str) : TyOf K H (.str x) (.type "str")
 | flt (x : UInt64) : TyOf K H (.flt x) (.type "float")
 | lst {a : Addr} {xs : List V} (e : H a = some (.lst xs)) : TyOf K H (.ref a) (.type "list")
 | frz {a : Addr} {o : Obj} {xs : List V} (e : H a = some (.frz o (.lst xs))) : TyOf K H (.ref a) (.type "list")
 | tup {a : Addr} {xs : List V} (e : H a = some (.tup xs)) : TyOf K H (.ref a) (.type "tuple")
 | dK {a : Addr} {kvs : List (Key × V)} (e : H a = some (.dK kvs)) : TyOf K H (.ref a) (.type "dict")
 | dT {a : Addr} {kvs : List (List Key × V)} (e : H a = some (.dT kvs)) : TyOf K H (.ref a) (.type "dict")
 | ins {a C dx : Addr} {fs : List (Str × V)} (e : H a = some (.ins C dx fs)) (cl : Cls K C) (ha : PySem.W.findIn K (.ref C) "__class__" = some (some (.builtin "object.__class__")))
   (hn : PySem.W.specialIn K (.builtin "object.__class__") "__get__" = some (some (.builtin "getset_descriptor.__get__"))) (htk : PySem.W.takesIn K (.builtin "object.__class__") = some true)
   (hm : PySem.W.mroIn K C (.type "object") = some true) : TyOf K H (.ref a) (.ref C)
end
end L2
namespace L2
open PySem PySem.Spec PyProof.Rows
structure Room (k : Nat) (A : Around) : Prop where
 hd : A.handled = none
 dp : A.depth + 3 * k + 5 < recursionLimit
 un : A.units + 16 * k + 200 < cLine
theorem Room.deeper {k : Nat} {A : Around} (r : Room (k + 1) A) (env : Env) : Room k (A.deeper env) :=
 ⟨r.hd, by have := r.dp; show A.depth + 1 + 3 * k + 5 < _; omega, by have := r.un; show A.units + 3 + 16 * k + 200 < _; omega⟩
theorem Room.depth {k : Nat} {A : Around} (r : Room k A) : A.depth < recursionLimit := by have := r.dp; omega
theorem Room.units {k : Nat} {A : Around} (r : Room k A) : A.units + 64 < cLine := by have := r.un; omega
noncomputable def tNil : TA := λ _ H Q => Q [] H
noncomputable def z7s (ta : TE) (tr : TA) : TA := λ σ H Q => ta σ H λ x H1 => tr σ H1 λ xs H2 => Q (x :: xs) H2
section
variable {X : Cx} {e : Expr} {es : List Expr} {te : TE} {t : TA} {pos : Pos}
theorem q3j : PA X [] tNil := λ _ _ _ _ H Q I h => Calls.spliced_nil ⟨[], H, I, .nil, h⟩
theorem q0Z (ha : PE X e te) (hr : PA X es t) (hs : starEach (e :: es) X.env = (false, eval e X.env) :: starEach es X.env := by rfl) : PA X (e :: es) (z7s te t) := by
 intro pos pins s σ H Q I h
 rw [hs]
 show wpAny _ _ (spliced ((false, eval e X.env) :: backTo pos (starEach es X.env))) _ _ s
 refine Calls.spliced_cons (thn (ha pins s σ H _ I h) λ u s1 ⟨x, H1, I1, r1, q1⟩ => ?_)
 exact thn (hr pos pins s1 σ H1 _ I1 q1) λ us s2 ⟨xs, H2, I2, r2, q2⟩ => ⟨x :: xs, H2, I2, .cons r1 r2, q2⟩
noncomputable def tTup (t : TA) : TE := λ σ H Q => t σ H λ xs H1 => xs.length <= sizeLine /\ ∀ p, H1 p = none -> Q (.ref p) (upd H1 p (.tup xs))
noncomputable def tLst (t : TA) : TE := λ σ H Q => t σ H λ xs H1 => xs.length <= sizeLine /\ ∀ p, H1 p = none -> Q (.ref p) (upd H1 p (.lst xs))
theorem z2D {x1} (h : PA X es t) : PE X (.Tuple es x1 pos) (tTup t) := by
 intro pins s σ H Q I hq
 refine wpAny_Tuple_spliced (thn (h pos pins s σ H _ I hq) λ us s1 ⟨xs, H1, I1, r, z, q⟩ => ⟨by rw [<- r.length]; exact z, ?_⟩)
 have hf : H1 s1.heap.objs.size = none := I1.hok.fresh (Nat.le_refl _)
 refine ⟨.ref s1.heap.objs.size, upd H1 s1.heap.objs.size (.tup xs), I1.laid (t' := s1.toks) (λ b u e => Heap.get?_push_of_some _ e) (Nat.le_refl _) ?_, rfl, q _ hf⟩
 exact ⟨z, us, r, ⟨_, Heap.get?_push_size _ rfl, ⟨rfl, rfl⟩, _, rfl⟩⟩
theorem z6z (h : PA X es t) : PE X (.List es pos) (tLst t) := by
 intro pins s σ H Q I hq
 refine wpAny_List_spliced (thn (h pos pins s σ H _ I hq) λ us s1 ⟨xs, H1, I1, r, z, q⟩ => ⟨by rw [<- r.length]; exact z, ?_⟩)
 have hf : H1 s1.heap.objs.size = none := I1.hok.fresh (Nat.le_refl _)
 refine ⟨.ref s1.heap.objs.size, upd H1 s1.heap.objs.size (.lst xs), I1.laid (t' := s1.toks) (λ b u e => Heap.get?_push_of_some _ e) (Nat.le_refl _) ?_, rfl, q _ hf⟩
 exact ⟨z, us, 0, r, Heap.get?_push_size _ rfl⟩
end
noncomputable abbrev Sp := List V -> Hp -> VK -> XK -> Prop
noncomputable abbrev CXT := List Env -> Hp -> Shared -> XK -> Value -> Shared -> Prop
structure Env0 (P : Program) (w : World) (K : PySem.W.Frag) (mg : Str -> Option Value) (base : Heap) (A : Around) (outer : List Env) (s : Shared) (H : Hp) : Prop where
 frames : A.frames = some outer
 mod : Mod K mg base
 bs : ∀ b o, base.get? b = some o -> s.heap.get? b = some o /\ H b = none
 bsz : base.objs.size <= s.heap.objs.size
 funs : s.heap.FunFrames base outer
 frf : ∀ b ∈ frs outer, H b = none
 hok : HOk P w H s.heap
 bare : AllBare s.gens
noncomputable def CE (outer : List Env) (P : Program) (w : World) (H : Hp) (s : Shared) (Q : VK) (u : Value) (s' : Shared) : Prop :=
 ∃ v H', s'.os = s.os /\ AllBare s'.gens /\ Un (frs outer) [] H H' s.heap s'.heap /\ HOk P w H' s'.heap /\ RelV v u /\ Q v H'
noncomputable def CR (CX : CXT) (outer : List Env) (P : Program) (w : World) (H : Hp) (s : Shared) (Q : VK) (E : XK) (r : Result) (s' : Shared) : Prop :=
 match r with
 | .ok (.ret u) => CE outer P w H s Q u s'
 | .ok _ => False
 | .error e => CX outer H s E e s'
structure FnOk (P : Program) (w : World) (K : PySem.W.Frag) (mg : Str -> Option Value) (base : Heap) (CX : CXT) (k : Nat) (f : Addr) (fd : FuncData) (ps : List Str) (sp : Sp) : Prop where
 len : ∀ vs H Q E, sp vs H Q E -> vs.length = ps.length
 run : ∀ (A : Around) (outer : List Env) (s : Shared) (H : Hp) (args : Args) (us : List Value) (vs : List V) (Q : VK) (E : XK), Room k A -> Env0 P w K mg base A outer s H -> BindsTo s fd args (ps.zip us) -> Vals vs us -> sp vs H Q E ->
  codeAny (model P w) A (.call (.ref f) args) (CR CX outer P w H s Q E) s
section
variable {X : Cx} {pins : List (Addr × Obj)} {σ : St} {H : Hp} {s s' : Shared}
theorem Inv.env0 (I : Inv X pins σ H s) : Env0 X.prog X.w X.K X.mg X.base X.A X.stack s H :=
 ⟨I.ok.frames, I.ok.mod, I.bs, Nat.le_trans I.ok.bsz I.sz, I.stack, I.stkFree, I.hok, I.bare⟩
theorem Inv.after {Q : VK} {u : Value} (I : Inv X pins σ H s) (h : CE X.stack X.prog X.w H s Q u s') : EP X pins σ Q u s' := by
 obtain ⟨v, H', os, bare, un, hok, r, q⟩ := h
 obtain ⟨hh, g, d, t, os'⟩ := s'
 obtain rfl : os' = s.os := os
 exact ⟨v, H', I.call (h' := hh) (g' := g) (d' := d) (t' := t) (ch := []) un hok bare (λ b z => absurd z (by simp)), r, q⟩
end
noncomputable def q4u (K : PySem.W.Frag) (fd : FuncData) (ps : List Str) (ds : List Value) : Prop :=
 ∀ (s : Shared) (us : List Value), K.In s.heap -> (us ++ ds).length = ps.length -> BindsTo s fd ⟨us, []⟩ (ps.zip (us ++ ds))
theorem q4u.all {K : PySem.W.Frag} {fd : FuncData} {ps : List Str} (h : ∀ us : List Value, us.length = ps.length -> bindArgs fd ⟨us, []⟩ = pure (ps.zip us)) : q4u K fd ps [] := λ s us _ hl => by
 rw [List.append_nil] at hl ⊢
 exact .of_eq (h us hl)
noncomputable def z0D (CX : CXT) (X : Cx) (E : XK) : Prop := ∀ (pins : List (Addr × Obj)) (σ : St) (H : Hp) (s : Shared) (e : Value) (s' : Shared), Inv X pins σ H s -> CX X.stack H s E e s' -> X.xe e s'
section
variable {X : Cx} {CX : CXT} {k : Nat} {f C : Addr} {fd : FuncData} {ps : List Str} {sp : Sp} {dvs : List V} {ds : List Value} {E : XK} {x m : Str} {p pos apos : Pos} {e o : Expr} {es : List Expr} {ta : TE} {t : TA}
structure Mk (K : PySem.W.Frag) (C f : Addr) : Prop where
 makes : PySem.W.makesIn K C = true
 init : PySem.W.findIn K (.ref C) "__init__" = some (some (.ref f))
 fn : PySem.W.isFn K (.ref f) = true
 kp : PySem.W.keepIn K (.ref C) = true
end
section
variable {X : Cx} {CX : CXT} {k : Nat} {f C : Addr} {fd : FuncData} {ps ks : List Str} {sp : Sp} {E : XK} {x m : Str} {p pos apos kpos : Pos} {e o : Expr} {es : List Expr} {kws : List Keyword} {te ta : TE} {t tk : TA} {nm : Option Str}
structure KBinds (K : PySem.W.Frag) (fd : FuncData) (ps ks : List Str) (g : List Value -> List Value -> List Value) (gV : List V -> List V -> List V) : Prop where
 to : ∀ (s : Shared) (us ws : List Value), K.In s.heap -> (g us ws).length = ps.length -> BindsTo s fd ⟨us, ks.zip ws⟩ (ps.zip (g us ws))
 rel : ∀ {vs : List V} {us : List Value} {zs : List V} {ws : List Value}, Vals vs us -> Vals zs ws -> Vals (gV vs zs) (g us ws)
variable {g : List Value -> List Value -> List Value} {gV : List V -> List V -> List V}
end
structure FnScope (N P : List Str) (sc : Scope) : Prop where
 kind : sc.kind = .function
 co : sc.isCoroutine = false
 gen : sc.isGenerator = false
 nd : N.Nodup
 pre : N.take P.length = P
 par : ∀ x ∈ P, sc.names.lookup x = some .local \/ sc.names.lookup x = some .cell
 nofree : ∀ y ∈ sc.names, y.2 ≠ .free
theorem q6B {kindOf : Str -> Option NameKind} {x : Str} : ∀ {binds : List (Str × Value)} {m : Str -> Option Value}, (∀ v, (x, v) ∉ binds) -> bindL kindOf binds m x = m x
 | [], _, _ => rfl
 | (n, v) :: r, m, h => by
  unfold bindL
  rw [q6B λ w hw => h w (List.mem_cons_of_mem _ hw)]
  split
  ·have : x ≠ n := by rintro rfl; exact h v List.mem_cons_self
   simp [this]
  ·rfl
theorem q6A {kindOf : Str -> Option NameKind} {x : Str} : ∀ {binds : List (Str × Value)} {m : Str -> Option Value}, (∀ v, (x, v) ∉ binds) -> bindC kindOf binds m x = m x
 | [], _, _ => rfl
 | (n, v) :: r, m, h => by
  unfold bindC
  rw [q6A λ w hw => h w (List.mem_cons_of_mem _ hw)]
  split
  ·rfl
  ·have : x ≠ n := by rintro rfl; exact h v List.mem_cons_self
   simp [this]
theorem q6k {kindOf : Str -> Option NameKind} {x : Str} {v : Value} : ∀ {P : List Str} {vs : List Value} {i : Nat} {m : Str -> Option Value}, P.Nodup -> P[i]? = some x -> vs[i]? = some v -> kindOf x = some .local ->
  bindL kindOf (P.zip vs) m x = some v
 | [], _, _, _, _, h, _, _ => by simp at h
 | _ :: _, [], _, _, _, _, h, _ => by simp at h
 | p :: P, w :: vs, 0, m, nd, h1, h2, hk => by
  simp at h1 h2; subst h1; subst h2
  show bindL kindOf ((p, w) :: P.zip vs) m p = _
  unfold bindL
  rw [q6B λ v hv => (List.nodup_cons.mp nd).1 (List.of_mem_zip hv).1, if_pos hk]
  simp
 | p :: P, w :: vs, i + 1, m, nd, h1, h2, hk => by
  show bindL kindOf ((p, w) :: P.zip vs) m x = _
  unfold bindL
  exact q6k (i := i) (List.nodup_cons.mp nd).2 (by simpa using h1) (by simpa using h2) hk
theorem q6G {kindOf : Str -> Option NameKind} {x : Str} {v : Value} : ∀ {P : List Str} {vs : List Value} {i : Nat} {m : Str -> Option Value}, P.Nodup -> P[i]? = some x -> vs[i]? = some v -> kindOf x ≠ some .local ->
  bindC kindOf (P.zip vs) m x = some v
 | [], _, _, _, _, h, _, _ => by simp at h
 | _ :: _, [], _, _, _, _, h, _ => by simp at h
 | p :: P, w :: vs, 0, m, nd, h1, h2, hk => by
  simp at h1 h2; subst h1; subst h2
  show bindC kindOf ((p, w) :: P.zip vs) m p = _
  unfold bindC
  rw [q6A λ v hv => (List.nodup_cons.mp nd).1 (List.of_mem_zip hv).1, if_neg hk]
  simp
 | p :: P, w :: vs, i + 1, m, nd, h1, h2, hk => by
  show bindC kindOf ((p, w) :: P.zip vs) m x = _
  unfold bindC
  exact q6G (i := i) (List.nodup_cons.mp nd).2 (by simpa using h1) (by simpa using h2) hk
noncomputable def start (N : List Str) (vs : List V) : St := vs.map some ++ List.replicate (N.length - vs.length) none
noncomputable def cxOf (CX : CXT) (P : Program) (w : World) (K : PySem.W.Frag) (mg : Str -> Option Value) (base : Heap) (N : List Str) (qual : Str) (scope : Scope) (f : Addr) (cd : Value) (A : Around) (outer : List Env) (s : Shared) (H : Hp) (E : XK) : Cx where
 prog := P
 w := w
 K := K
 mg := mg
 base := base
 A := A.deeper (envOfC qual scope s.heap.objs.size f cd)
 N := N
 s₀ := s
 H₀ := H
 env := envOfC qual scope s.heap.objs.size f cd
 outer := outer
 stack := envOfC qual scope s.heap.objs.size f cd :: outer
 ex := []
 calm := true
 fn := λ _ => true
 pn := []
 xe := λ e s' => wpAny (model P w) (A.deeper (envOfC qual scope s.heap.objs.size f cd)) (leaving (envOfC qual scope s.heap.objs.size f cd) e) (λ _ s'' => CX outer H s E e s'') (λ e' s'' => CX outer H s E e' s'') s'
theorem q8i {sc : Scope} {n : Nat} {x : Str} (h : sc.names.lookup x = some .cell) : ∃ c, (cellsFrom n sc.names []).lookup x = some c := by
 have q := PySem.W.cellsFrom_some sc.names n [] (.inl h)
 exact Option.isSome_iff_exists.mp q
theorem q9Q {CX : CXT} {P : Program} {w : World} {K : PySem.W.Frag} {mg : Str -> Option Value} {base : Heap} {N ps : List Str} {qual : Str} {scope : Scope} {f : Addr} {cd : Value} {A : Around} {outer : List Env} {s s1 : Shared} {H : Hp} {E : XK} {us : List Value} {vs : List V}
  (S : FnScope N ps scope) (hd : A.handled = none) (e0 : Env0 P w K mg base A outer s H) (hl : vs.length = ps.length) (r : Vals vs us)
  (x : InCallC s s.heap.objs.size (bindL (envOfC qual scope s.heap.objs.size f cd).kindOf (ps.zip us) λ _ => none) (cellsFrom (s.heap.objs.size + 1) scope.names []) (bindC (envOfC qual scope s.heap.objs.size f cd).kindOf (ps.zip us) λ _ => none) s1) :
  Inv (cxOf CX P w K mg base N qual scope f cd A outer s H E) [] (start N vs) H s1 := by
 have hpl : ps.length <= N.length := by have := congrArg List.length S.pre; rw [List.length_take] at this; omega
 obtain ⟨h1, tk, rfl, hk⟩ := x.done
 have noA : ∀ b : Addr, b ∉ (cxOf CX P w K mg base N qual scope f cd A outer s H E).ex := λ b z => absurd (show b ∈ ([] : List Addr) from z) (by simp)
 refine ⟨⟨e0.mod, S.kind, rfl, rfl, Nat.le_refl _, λ y z c h1 h2 => ?_, λ y hy => ?_, λ y c _ h => ?_, λ _ => hd, Around.frames_deeper e0.frames, .inr ⟨rfl, rfl⟩, λ b z => absurd z (noA b), e0.bs, e0.bsz, λ b _ _ => noA b, λ b z => absurd z (noA b), e0.funs, e0.frf⟩,
  rfl, e0.bare, Un.kept hk, ⟨_, x.toInCall.ns, λ i y v h1 h2 h3 => ?_⟩, λ y c h => ⟨_, x.cell y c h⟩, e0.hok.fresh (Nat.le_refl _), λ y c h => ?_, λ p hp => absurd (show p ∈ ([] : List (Addr × Obj)) from hp) (by simp), e0.hok.kept hk, ?_⟩
 ·exact name_of_addr x.apart (PySem.mem_of_lookup h1) (PySem.mem_of_lookup h2)
 ·have hy : scope.names.lookup y = some .cell \/ scope.names.lookup y = some .free := hy
  rcases hy with hy | hy
  ·exact q8i hy
  ·exact absurd rfl (S.nofree _ (PySem.mem_of_lookup hy))
 ·exact Nat.le_of_lt (x.above y c (PySem.mem_of_lookup h))
 ·have hi : i < vs.length := by
   unfold start at h2
   by_cases hi : i < vs.length
   ·exact hi
   ·rw [List.getElem?_append_right (by simpa using hi)] at h2
    rw [List.getElem?_replicate] at h2
    split at h2 <;> cases h2
  have ha : vs[i]? = some v := by
   unfold start at h2
   rw [List.getElem?_append_left (by simpa using hi), List.getElem?_map] at h2
   cases e : vs[i]? with
   | none => rw [e] at h2; cases h2
   | some a => rw [e] at h2; cases h2; rfl
  obtain ⟨u, hu, rv⟩ := r.get ha
  have hp : ps[i]? = some y := by
   rw [<- S.pre, List.getElem?_take_of_lt (by omega)]; exact h1
  have ndP : ps.Nodup := by rw [<- S.pre]; exact S.nd.sublist (List.take_sublist _ _)
  refine ⟨u, rv, ?_⟩
  rcases S.par y (List.mem_of_getElem? hp) with k | k
  ·exact .inl ⟨k, q6k ndP hp hu k⟩
  ·obtain ⟨c, e⟩ := q8i (n := s.heap.objs.size + 1) k
   refine .inr ⟨.inl k, c, e, ?_⟩
   have q := x.cell y c e
   rw [q6G ndP hp hu (by show scope.names.lookup y ≠ _; rw [k]; decide)] at q
   exact q
 ·exact e0.hok.fresh (Nat.le_of_lt (x.above y c (PySem.mem_of_lookup h)))
 ·unfold start
  show _ = N.length
  rw [List.length_append, List.length_map, List.length_replicate]
  omega
theorem z7h {CX : CXT} {P : Program} {w : World} {K : PySem.W.Frag} {mg : Str -> Option Value} {base : Heap} {k : Nat} {f : Addr} {name qual : Str} {params : Arguments} {body : List Stmt} {scope : Scope} {dV kV doc pm cdv ct oc : Value} {an od : Option Addr}
  {osl : Array (Option Value)} {N ps : List Str} {sp : Sp} (lk : K.lookup f = some ⟨oc, od, .func (PySem.W.fnOf name qual params body scope dV kV doc pm an cdv ct), osl⟩) (hcd : PySem.W.codeIn K cdv qual = true) (S : FnScope N ps scope)
  (len : ∀ vs H Q E, sp vs H Q E -> vs.length = ps.length)
  (hbody : ∀ (A : Around) (outer : List Env) (s : Shared) (H : Hp) (vs : List V) (Q : VK) (E : XK), Room k (A.deeper (envOfC qual scope s.heap.objs.size f cdv)) -> sp vs H Q E ->
   ∃ t, PSs (cxOf CX P w K mg base N qual scope f cdv A outer s H E) body t /\ t { nx := λ _ H' => Q .non H', rt := Q } (start N vs) H) :
  FnOk P w K mg base CX (k + 1) f (PySem.W.fnOf name qual params body scope dV kV doc pm an cdv ct) ps sp := by
 refine ⟨len, λ A outer s H args us vs Q E hr e0 hb r hsp => ?_⟩
 have hl := len _ _ _ _ hsp
 have KX : K.In s.heap := e0.mod.kin.keeps λ b o e => (e0.bs b o e).1
 have lim : s.heap.NoLimit := e0.mod.nolimit.keeps λ b o e => (e0.bs b o e).1
 have hkind : ∀ y ∈ ps.zip us, scope.names.lookup y.1 = some .local \/ (scope.names.lookup y.1 = some .cell /\ ((cellsFrom (s.heap.objs.size + 1) scope.names []).lookup y.1).isSome = true) := λ ⟨n, v⟩ hy => by
  rcases S.par n (List.of_mem_zip hy).1 with q | q
  ·exact .inl q
  ·exact .inr ⟨q, PySem.W.cellsFrom_some _ _ _ (.inl q)⟩
 refine codeAny_call_function hr.depth (KX _ _ lk) rfl S.co S.gen rfl (PySem.W.codeRec_of KX hcd) (hb _ _ _ _ ?_)
 refine wpAny_newFunctionEnv_cells S.kind hkind λ env he s1 x => ?_
 subst he
 refine ⟨lim.keeps x.toInCall.keep, codeAny_func ?_⟩
 obtain ⟨t, ht, hq⟩ := hbody A outer s H vs Q E (hr.deeper _) hsp
 have I : Inv (cxOf CX P w K mg base N qual scope f cdv A outer s H E) [] (start N vs) H s1 := q9Q S hr.hd e0 hl r x
 refine wpAny_mono (ht [] s1 (start N vs) H _ I hq) (λ fl s' hs => ?_) λ e s' hs => hs
 have fin : ∀ {σ' : St} {H' : Hp} {v : V} {u : Value}, Inv (cxOf CX P w K mg base N qual scope f cdv A outer s H E) [] σ' H' s' -> RelV v u -> Q v H' -> CE outer P w H s Q u s' :=
  λ {σ' H' v u} J rv q => ⟨v, H', J.os, J.bare, J.base, J.hok, rv, q⟩
 cases fl with
 | ret u =>
  obtain ⟨v, σ', H', J, rv, q⟩ := hs
  exact fin J rv q
 | next =>
  obtain ⟨σ', H', J, q⟩ := hs
  exact fin (v := V.non) (u := Value.none) J rfl q
 | brk =>
  obtain ⟨_, _, _, q⟩ := hs
  exact False.elim q
 | cont =>
  obtain ⟨_, _, _, q⟩ := hs
  exact False.elim q
end L2
namespace L2
open PySem PySem.Spec PyProof.Rows
section
variable {X : Cx} {x : Str} {p pos : Pos} {e : Expr} {es : List Expr} {t : TA} {id T : String} {r : List V -> Hp -> VK -> Prop}
noncomputable def tCB (r : List V -> Hp -> VK -> Prop) (t : TA) : TE := λ σ H Q => t σ H λ vs H1 => r vs H1 Q
theorem q3l (hc : q1o X (.builtin id) r) (hg : Gl X x) (hm : X.mg x = none) (hv : bootBuiltins x = some (.builtin id)) (ha : PA X (e :: es) t) (hn : x ≠ "__name__" := by decide) (hdb : (x == ("__debug__" : Str)) = false := by decide)
  (he : starEach (e :: es) X.env = (false, eval e X.env) :: starEach es X.env := by rfl) (hpl : (backTo pos (starEach es X.env)).any (·.1) = false := by rfl) : PE X (.Call (.Name x p) (e :: es) [] pos) (tCB r t) := by
 intro pins s σ H Q I h
 refine wpAny_Call_Name_kw (q4V I hg hm hv ?_ hn hdb)
 exact PyProof.Rows.callWith_builtin1 (thn (ha pos pins s σ H _ I h) λ us s1 ⟨vs, H1, I1, r1, q1⟩ => hc pins s1 σ H1 vs us Q I1 r1 q1) he hpl
theorem q6i (hc : q1o X (.type T) r) (hg : Gl X x) (hm : X.mg x = none) (hv : bootBuiltins x = some (.type T)) (ha : PA X (e :: es) t) (hn : x ≠ "__name__" := by decide) (hdb : (x == ("__debug__" : Str)) = false := by decide)
  (he : starEach (e :: es) X.env = (false, eval e X.env) :: starEach es X.env := by rfl) (hpl : (backTo pos (starEach es X.env)).any (·.1) = false := by rfl) : PE X (.Call (.Name x p) (e :: es) [] pos) (tCB r t) := by
 intro pins s σ H Q I h
 refine wpAny_Call_Name_kw (q4V I hg hm hv ?_ hn hdb)
 exact PyProof.Rows.callWith_type1 (thn (ha pos pins s σ H _ I h) λ us s1 ⟨vs, H1, I1, r1, q1⟩ => hc pins s1 σ H1 vs us Q I1 r1 q1) he hpl
end
end L2
namespace HT
open PySem PyProof.Rows
section
open PySem.SeqAt
open PySem.AutoSeq1 (wpAny_loadPart')
open PySem.MeetsSeq PySem.MeetsSeq2 PySem.MeetsSeq3
end
section
variable {prog : Program} {w : World} {A : Around} {E : Value -> Shared -> Prop} {s : Shared}
noncomputable def sIx (n d : Nat) : Option Int -> Nat
 | none => d
 | some v => if v < 0 then (v + (n : Int)).toNat else min v.toNat n
theorem z6I (n d : Nat) (hd : d <= n) (o : Option Int) : sIx n d o <= n := by
 cases o with
 | none => exact hd
 | some v =>
  show (if v < 0 then (v + (n : Int)).toNat else min v.toNat n) <= n
  by_cases hv : v < 0
  ·rw [if_pos hv]; omega
  ·rw [if_neg hv]; exact Nat.min_le_right _ _
theorem q8X (v : Int) (n d : Nat) : (if v < 0 then max (v + (n : Int)) 0 else min v (n : Int)) = ((sIx n d (some v) : Nat) : Int) := by
 show (if v < 0 then max (v + (n : Int)) 0 else min v (n : Int)) = (((if v < 0 then (v + (n : Int)).toNat else min v.toNat n) : Nat) : Int)
 by_cases hv : v < 0
 ·simp only [if_pos hv]; omega
 ·simp only [if_neg hv]; omega
theorem q8H (lo hi : Option Int) (n : Nat) : Builtin.Slice.sliceAdjust lo hi 1 (n : Int) = (((sIx n 0 lo : Nat) : Int), ((sIx n n hi : Nat) : Int)) := by
 have h1 : ¬ ((1 : Int) < 0) := by omega
 unfold Builtin.Slice.sliceAdjust
 simp only [h1, if_false]
 refine Prod.ext ?_ ?_
 ·cases lo with
  | none => rfl
  | some v => exact q8X v n 0
 ·cases hi with
  | none => rfl
  | some v => exact q8X v n n
theorem q8n (i j : Nat) : Builtin.Slice.slicePlaces (i : Int) (j : Int) 1 = j - i := by
 unfold Builtin.Slice.slicePlaces
 have h1 : (1 : Int) > 0 := by omega
 simp only [h1, if_true, Int.ediv_one]
 split <;> omega
theorem q4T {v : Value} {o : Option Int} {Q : Option Int -> Shared -> Prop} (p : IsPart v o) (h : Q o s) : wpAny (model prog w) A (Builtin.Slice.slicePartIndex v) Q E s := by
 cases p with
 | none => exact slicePart_none h
 | int i t => exact slicePart_int h
theorem q3Y {sl : Addr} {vl vu : Value} {lo hi : Option Int} {n : Nat} {Q : Int × Int × Nat -> Shared -> Prop} (hs : s.heap.IsSliceOf sl vl vu .none) (pl : IsPart vl lo) (pu : IsPart vu hi)
  (h : Q (((sIx n 0 lo : Nat) : Int), 1, sIx n n hi - sIx n 0 lo) s) : wpAny (model prog w) A (Builtin.Slice.sliceApplied (.ref sl) (pure (n : Int))) Q E s := by
 obtain ⟨os, hos, hcs, hds⟩ := id hs
 unfold Builtin.Slice.sliceApplied Builtin.Slice.sliceFields
 refine wpAny_bind (wpAny_bind (wpAny_field hos hds (x := vl) rfl (wpAny_bind (wpAny_field hos hds (x := vu) rfl (wpAny_bind (wpAny_field hos hds (x := .none) rfl (wpAny_pure ?_)))))))
 refine wpAny_bind (slicePart_none ?_)
 show wpAny _ _ (if ((1 : Int) == 0) = true then _ else _) _ _ s
 rw [if_neg (by decide)]
 refine wpAny_bind (q4T pl (wpAny_bind (q4T pu (wpAny_bind (wpAny_pure ?_)))))
 show wpAny _ _ (match Builtin.Slice.sliceAdjust lo hi 1 (n : Int) with | (lo, hi) => pure (lo, (1 : Int), Builtin.Slice.slicePlaces lo hi 1)) _ _ s
 rw [q8H lo hi n]
 show wpAny _ _ (pure (((sIx n 0 lo : Nat) : Int), (1 : Int), Builtin.Slice.slicePlaces ((sIx n 0 lo : Nat) : Int) ((sIx n n hi : Nat) : Int) 1)) _ _ s
 rw [q8n]
 exact wpAny_pure h
theorem z1e (xs : Array Value) (i k : Nat) : ((List.range k).filterMap λ (m : Nat) => xs[((i : Int) + (m : Int) * 1).toNat]?).toArray = ((xs.toList.drop i).take k).toArray := by
 have e : (λ (m : Nat) => xs[((i : Int) + (m : Int) * 1).toNat]?) = λ m => xs[i + m]? := by
  funext m
  have : ((i : Int) + (m : Int) * 1).toNat = i + m := by omega
  rw [this]
 rw [e]
 have := pick_run xs i k
 rw [List.filterMap_map] at this
 have e2 : ((λ x => xs[x]?) ∘ λ x => i + x) = λ m => xs[i + m]? := rfl
 rw [e2] at this
 rw [this]
theorem getItem_tuple_cut {t sl : Addr} {items : Array Value} {vl vu : Value} {lo hi : Option Int} {Q : Value -> Shared -> Prop} (ht : IsTup s.heap t items) (hs : s.heap.IsSliceOf sl vl vu .none) (pl : IsPart vl lo) (pu : IsPart vu hi)
  (hw : ¬ (sIx items.size 0 lo = 0 /\ sIx items.size items.size hi = items.size))
  (h : Q (.ref s.heap.objs.size) { s with heap := s.heap.push { cls := .type "tuple", data := .seq ((items.toList.drop (sIx items.size 0 lo)).take (sIx items.size items.size hi - sIx items.size 0 lo)).toArray } })
  (hsz : items.size <= sizeLine) : wpAny (model prog w) A (getItem (.ref t) (.ref sl)) Q E s := by
 have htake : sizeOk (.seq ((items.toList.drop (sIx items.size 0 lo)).take (sIx items.size items.size hi - sIx items.size 0 lo)).toArray) := by
  show ((items.toList.drop (sIx items.size 0 lo)).take (sIx items.size items.size hi - sIx items.size 0 lo)).toArray.size <= sizeLine
  rw [List.size_toArray, List.length_take, List.length_drop, Array.length_toList]
  omega
 have hj : sIx items.size items.size hi <= items.size := z6I _ _ (Nat.le_refl _) hi
 obtain ⟨os, hos, hcs, hds⟩ := id hs
 have hTs : s.TypeIs (.ref sl) "slice" := ⟨os, hos, hcs⟩
 unfold getItem
 try with_reducible refine wpAny_holding ?_
 first | refine wpAny_bind (wpAny_pure ?_) | skip
 refine wpAny_bind (wpAny_sequenceKey ht.typeIs (by decide) ?_)
 refine wpAny_bind (wpAny_callSpecial?_slot (name := Str.ofString "__getitem__") ht.typeIs PyProof.Rows.slot_tuple_getitem
  (wpAny_call_entry PyProof.Rows.slot_tuple_getitem ht.typeIs entry_tuple_getitem ?_ (args_tuple_getitem _ _)))
 show wpAny _ _ (Builtin.Tuple.tupleItemsOf (.ref t) >>= _) _ _ s
 refine wpAny_bind (tupleItemsOf_ ht ?_)
 refine wpAny_bind (wpAny_typeOf hTs ?_)
 rw [if_pos (by decide)]
 refine wpAny_bind (q3Y hs pl pu ?_)
 have hno : ¬ ((((sIx items.size 0 lo : Nat) : Int) == 0 && (1 : Int) == 1 && (sIx items.size items.size hi - sIx items.size 0 lo) == items.size) = true) := by
  intro q
  rw [Bool.and_eq_true, Bool.and_eq_true] at q
  have q1 : ((sIx items.size 0 lo : Nat) : Int) = 0 := eq_of_beq q.1.1
  have q2 : sIx items.size items.size hi - sIx items.size 0 lo = items.size := eq_of_beq q.2
  exact hw ⟨by omega, by omega⟩
 show wpAny _ _ (if (((sIx items.size 0 lo : Nat) : Int) == 0 && (1 : Int) == 1 && (sIx items.size items.size hi - sIx items.size 0 lo) == items.size) = true then _ else _) _ _ s
 rw [if_neg hno, z1e]
 first
  | exact wpAny_bind (m := Builtin.Tuple.tupleExact _) (wpAny_newObj_type (wpAny_pure ⟨_, rfl, wpAny_pure h⟩) htake)
  | exact wpAny_bind (m := Builtin.Tuple.tupleExact _) (wpAny_newObj_type (wpAny_bind (wpAny_pure (wpAny_pure ⟨_, rfl, wpAny_pure h⟩))) htake)
  | exact wpAny_bind (wpAny_bind (m := Builtin.Tuple.tupleExact _) (wpAny_newObj_type (wpAny_pure (wpAny_pure ⟨_, rfl, wpAny_pure h⟩)) htake))
  | exact wpAny_bind (wpAny_bind (m := Builtin.Tuple.tupleExact _) (wpAny_newObj_type (wpAny_pure ⟨_, rfl, wpAny_pure h⟩) htake))
end
end HT
namespace L2
open PySem PySem.Spec PyProof.Rows
noncomputable abbrev TO := St -> Hp -> (Option Int -> Hp -> Prop) -> Prop
noncomputable def PO (X : Cx) (e : Option Expr) (t : TO) : Prop :=
 ∀ (pins : List (Addr × Obj)) (s : Shared) (σ : St) (H : Hp) (Q : Option Int -> Hp -> Prop), Inv X pins σ H s -> t σ H Q ->
  wpAny (model X.prog X.w) X.A (evalPart e X.env) (λ u s' => ∃ o H', Inv X pins σ H' s' /\ IsPart u o /\ Q o H') X.xe s
noncomputable def z2N : TO := λ _ H Q => Q none H
noncomputable def z7k (t : TE) : TO := λ σ H Q => t σ H λ x H1 => ∃ i, x = .int i /\ Q (some i) H1
section
variable {X : Cx} {e : Expr} {te : TE} {lo hi : Option Expr} {tl th : TO} {pos p2 : Pos}
theorem q3C : PO X none z2N := by
 intro pins s σ H Q I h
 rw [evalPart_none]
 exact wpAny_pure ⟨none, H, I, .none, h⟩
theorem q9e (h : PE X e te) : PO X (some e) (z7k te) := by
 intro pins s σ H Q I hw
 rw [evalPart_some]
 refine thn (h pins s σ H _ I hw) λ u s1 ⟨x, H1, I1, r1, q1⟩ => ?_
 obtain ⟨i, rfl, q⟩ := q1
 obtain ⟨t, rfl⟩ := r1
 exact ⟨some i, H1, I1, .int i t, q⟩
noncomputable def SlR (X : Cx) (r : V -> Option Int -> Option Int -> Hp -> VK -> Prop) : Prop :=
 ∀ (pins : List (Addr × Obj)) (s : Shared) (σ : St) (H : Hp) (x : V) (v vl vu : Value) (lo hi : Option Int) (sl : Addr) (Q : VK), Inv X pins σ H s -> RelV x v -> s.heap.IsSliceOf sl vl vu .none -> IsPart vl lo -> IsPart vu hi -> r x lo hi H Q ->
  ∃ T id, typeLookup (.type T) "__getitem__" = pure (some (.builtin id)) /\ s.TypeIs v T /\ wpAny (model X.prog X.w) X.A (getItem v (.ref sl)) (EP X pins σ Q) X.xe s
theorem SlR.or {r r' : V -> Option Int -> Option Int -> Hp -> VK -> Prop} (h : SlR X r) (h' : SlR X r') : SlR X (λ x lo hi H Q => r x lo hi H Q \/ r' x lo hi H Q) := by
 intro pins s σ H x v vl vu lo hi sl Q I rx hs pl pu q
 rcases q with q | q
 ·exact h pins s σ H x v vl vu lo hi sl Q I rx hs pl pu q
 ·exact h' pins s σ H x v vl vu lo hi sl Q I rx hs pl pu q
noncomputable def tSl (r : V -> Option Int -> Option Int -> Hp -> VK -> Prop) (te : TE) (tl th : TO) : TE := λ σ H Q => te σ H λ x H1 => tl σ H1 λ l H2 => th σ H2 λ u H3 => r x l u H3 Q
theorem q1t {r : V -> Option Int -> Option Int -> Hp -> VK -> Prop} (hr : SlR X r) (he : PE X e te) (hl : PO X lo tl) (hu : PO X hi th) : PE X (.Subscript e (.Slice lo hi none p2) pos) (tSl r te tl th) := by
 intro pins s σ H Q I h
 refine Subscript_ (thn (he pins s σ H _ I h) λ v s1 ⟨x, H1, I1, r1, q1⟩ => ?_)
 refine wpAny_Slice (thn (hl pins s1 σ H1 _ I1 q1) λ vl s2 ⟨l, H2, I2, pl, q2⟩ => thn (hu pins s2 σ H2 _ I2 q2) λ vu s3 ⟨u, H3, I3, pu, q3⟩ => ?_)
 rw [evalPart_none]
 refine wpAny_pure ?_
 have I4 : Inv X pins σ H3 { s3 with heap := s3.heap.push { cls := .type "slice", data := .fields #[vl, vu, .none] } } := I3.kept (t' := s3.toks) λ b ob q => Heap.get?_push_of_some _ q
 obtain ⟨T, id, hT, ht, hg⟩ := hr pins { s3 with heap := s3.heap.push { cls := .type "slice", data := .fields #[vl, vu, .none] } } σ H3 x v vl vu l u s3.heap.objs.size Q I4 r1 (Heap.IsSliceOf.new ..) pl pu q3
 show wpAny (model X.prog X.w) X.A (subscriptTail e (.Slice lo hi none p2) v (.ref s3.heap.objs.size)) (EP X pins σ Q) X.xe { s3 with heap := s3.heap.push { cls := .type "slice", data := .fields #[vl, vu, .none] } }
 exact tail_any (ops := [.ref s3.heap.objs.size, v]) ht hT hg (by with_unfolding_all rfl)
noncomputable def cutV (xs : List V) (lo hi : Option Int) : List V := (xs.drop (HT.sIx xs.length 0 lo)).take (HT.sIx xs.length xs.length hi - HT.sIx xs.length 0 lo)
theorem q4j (xs : List V) (lo hi : Option Int) : (cutV xs lo hi).length <= xs.length := by
 unfold cutV
 rw [List.length_take, List.length_drop]
 omega
noncomputable def rSlT (K : PySem.W.Frag) : V -> Option Int -> Option Int -> Hp -> VK -> Prop := λ x lo hi H Q => ∃ a xs, x = .ref a /\ SqT K H a xs /\
 ¬ (HT.sIx xs.length 0 lo = 0 /\ HT.sIx xs.length xs.length hi = xs.length) /\ ∀ p, H p = none -> Q (.ref p) (upd H p (.tup (cutV xs lo hi)))
theorem z5F : SlR X (rSlT X.K) := by
 intro pins s σ H x v vl vu lo hi sl Q I rx hs pl pu h
 obtain ⟨a, xs, rfl, hx, hw, q⟩ := h
 cases rx
 obtain ⟨its, r, ht, hz⟩ := I.tuple hx
 have hlen : its.toArray.size = xs.length := by rw [List.size_toArray]; exact r.length.symm
 refine ⟨"tuple", _, PyProof.Rows.slot_tuple_getitem.lookup, ht.typeIs, ?_⟩
 refine HT.getItem_tuple_cut ht hs pl pu (by rw [hlen]; exact hw) ?_ (by rw [hlen]; exact hz)
 rw [hlen]
 refine ⟨.ref s.heap.objs.size, _, I.laid (t' := s.toks) (o := .tup (cutV xs lo hi)) (λ b ob q => Heap.get?_push_of_some _ q) (Nat.le_refl _) ?_, rfl, q _ (I.hok.fresh (Nat.le_refl _))⟩
 exact ⟨Nat.le_trans (q4j xs lo hi) hz, _, (r.drop (HT.sIx xs.length 0 lo)).take (HT.sIx xs.length xs.length hi - HT.sIx xs.length 0 lo), q3k.new _ _⟩
end
end L2
namespace L2
open PySem PySem.Spec PyProof.Rows
noncomputable def ixN (n : Nat) (i : Int) : Option Nat := if 0 <= i then (if i < n then some i.toNat else none) else if -(n : Int) <= i then some (i + n).toNat else none
noncomputable def atI {α : Type} (xs : List α) (i : Int) : Option α := (ixN xs.length i).bind λ j => xs[j]?
theorem z0O {n : Nat} {i : Int} {j : Nat} (h : ixN n i = some j) : seqIndex? i n = some j /\ j < n /\ -(n : Int) <= i /\ i < n := by
 unfold ixN at h
 by_cases h0 : 0 <= i
 ·rw [if_pos h0] at h
  by_cases h1 : i < n
  ·rw [if_pos h1] at h
   have e : i.toNat = j := Option.some.inj h
   exact ⟨by rw [seqIndex_of h0 h1, e], by omega, by omega, h1⟩
  ·rw [if_neg h1] at h; cases h
 ·rw [if_neg h0] at h
  by_cases h1 : -(n : Int) <= i
  ·rw [if_pos h1] at h
   have e : (i + n).toNat = j := Option.some.inj h
   exact ⟨by rw [seqIndex_neg (by omega) h1, e], by omega, h1, by omega⟩
  ·rw [if_neg h1] at h; cases h
theorem q7u {α : Type} {xs : List α} {i : Int} {v : α} (h : atI xs i = some v) : ∃ j, seqIndex? i xs.length = some j /\ xs[j]? = some v /\ j < xs.length /\ -(xs.length : Int) <= i /\ i < xs.length := by
 unfold atI at h
 cases e : ixN xs.length i with
 | none => rw [e] at h; cases h
 | some j =>
  rw [e] at h
  obtain ⟨h1, h2, h3, h4⟩ := z0O e
  exact ⟨j, h1, h, h2, h3, h4⟩
noncomputable def z2Q (b : Expr) : Prop := ∀ o i, subscripted b false o i = operate [o, i] (getItem o i)
noncomputable def IxR (X : Cx) (r : R2) : Prop :=
 ∀ (value slice : Expr) (pins : List (Addr × Obj)) (s : Shared) (σ : St) (H : Hp) (x y : V) (v u : Value) (Q : VK), Inv X pins σ H s -> RelV x v -> RelV y u -> r x y H Q ->
  subscripted slice false v u = operate [v, u] (getItem v u) -> wpAny (model X.prog X.w) X.A (subscriptTail value slice v u) (EP X pins σ Q) X.xe s
noncomputable def MtR (X : Cx) (id : String) (r : V -> List V -> Hp -> VK -> Prop) : Prop :=
 ∀ (pins : List (Addr × Obj)) (s : Shared) (σ : St) (H : Hp) (x : V) (xs : List V) (v : Value) (us : List Value) (Q : VK), Inv X pins σ H s -> RelV x v -> Vals xs us -> r x xs H Q ->
  wpAny (model X.prog X.w) X.A (call (.builtin id) (v :: us)) (EP X pins σ Q) X.xe s
section
variable {X : Cx} {a b : Expr} {ta tb : TE} {pos : Pos}
theorem IxR.or {r r' : R2} (h : IxR X r) (h' : IxR X r') : IxR X (λ x y H Q => r x y H Q \/ r' x y H Q) := by
 intro value slice pins s σ H x y v u Q I rx ry q hs
 rcases q with q | q
 ·exact h value slice pins s σ H x y v u Q I rx ry q hs
 ·exact h' value slice pins s σ H x y v u Q I rx ry q hs
theorem z7o {r : R2} (hr : IxR X r) (ha : PE X a ta) (hb : PE X b tb) (hs : z2Q b) : PE X (.Subscript a b pos) (tOp r ta tb) := by
 intro pins s σ H Q I h
 exact Subscript_ (binT ha hb I h λ v u s2 x y H2 I2 rx ry q => hr a b pins s2 σ H2 x y v u Q I2 rx ry q (hs _ _))
noncomputable def rIxL (K : PySem.W.Frag) : R2 := λ x y H Q => ∃ p xs i v, x = .ref p /\ y = .int i /\ SqL K H p xs /\ atI xs i = some v /\ Q v H
noncomputable def rIxT (K : PySem.W.Frag) : R2 := λ x y H Q => ∃ p xs i v, x = .ref p /\ y = .int i /\ SqT K H p xs /\ atI xs i = some v /\ Q v H
noncomputable def rIxS : R2 := λ x y H Q => ∃ z i c, x = .str z /\ y = .int i /\ z.length <= sizeLine /\ atI z.cps.toList i = some c /\ Q (.str ⟨#[c]⟩) H
theorem z2P : IxR X (rIxL X.K) := by
 intro value slice pins s σ H x y v u Q I rx ry h hs
 obtain ⟨p, xs, i, z, rfl, rfl, hq, he, q⟩ := h
 cases rx
 obtain ⟨t, rfl⟩ := ry
 obtain ⟨its, r, pl, hz⟩ := I.list hq
 obtain ⟨j, h1, h2, h3, h4, h5⟩ := q7u he
 obtain ⟨w, ew, rw'⟩ := r.get h2
 have hl := r.length
 have hn := q4B
 have fin : EP X pins σ Q w s := ⟨z, H, I, rw', q⟩
 by_cases h0 : 0 <= i
 ·have hj : i.toNat = j := by
   rw [seqIndex_of h0 h5] at h1
   exact Option.some.inj h1
  exact item_listR pl.isList h0 (by omega) (by rw [hj]; simpa using ew) fin hs
 ·have hj : (i + (its.toArray.size : Int)).toNat = j := by
   rw [seqIndex_neg (by omega) h4] at h1
   rw [List.size_toArray, <- hl]
   exact Option.some.inj h1
  exact subscriptTail_builtinR (x := w) pl.isList.typeIs slot_list_getitem.lookup
   (wpAny_getItem_list_neg (Q := λ r s' => r = w /\ EP X pins σ Q r s') pl.isList (by omega) (by rw [List.size_toArray] <;> omega) (by omega) (by rw [hj]; simpa using ew) ⟨rfl, fin⟩) hs
theorem z4Z : IxR X (rIxT X.K) := by
 intro value slice pins s σ H x y v u Q I rx ry h hs
 obtain ⟨p, xs, i, z, rfl, rfl, hq, he, q⟩ := h
 cases rx
 obtain ⟨t, rfl⟩ := ry
 obtain ⟨its, r, pl, hz⟩ := I.tuple hq
 obtain ⟨j, h1, h2, h3, h4, h5⟩ := q7u he
 obtain ⟨w, ew, rw'⟩ := r.get h2
 have hl := r.length
 have hn := q4B
 have fin : EP X pins σ Q w s := ⟨z, H, I, rw', q⟩
 exact subscriptTail_builtinR (x := w) pl.typeIs slot_tuple_getitem.lookup
  (getItem_tuple (j := j) (Q := λ r s' => r = w /\ EP X pins σ Q r s') pl (by omega) (by omega) (by rw [List.size_toArray, <- hl]; exact h1) (by simpa using ew) ⟨rfl, fin⟩) hs
theorem z5P : IxR X rIxS := by
 intro value slice pins s σ H x y v u Q I rx ry h hs
 obtain ⟨z, i, c, rfl, rfl, hz, he, q⟩ := h
 obtain ⟨t, rfl⟩ := rx
 obtain ⟨t', rfl⟩ := ry
 obtain ⟨j, h1, h2, h3, h4, h5⟩ := q7u he
 have hl : z.cps.toList.length = z.length := by simp [Str.length]
 rw [hl] at h1 h4 h5
 have hn := q4B
 exact tail_any (typeIs_str s z t) slot_str_getitem.lookup (getItem_str (c := c) (by
  have e1 : decide (i < -(2 ^ 63 : Int)) = false := decide_eq_false (by omega)
  have e2 : decide (i ≥ 2 ^ 63) = false := decide_eq_false (by omega)
  rw [e1, e2, Bool.or_false]) (by rw [h1]; simpa using h2) ⟨.str ⟨#[c]⟩, H, I.tok _, ⟨_, rfl⟩, q⟩) hs
noncomputable def rIx (K : PySem.W.Frag) : R2 := λ x y H Q => rIxL K x y H Q \/ rIxT K x y H Q \/ rIxS x y H Q
theorem z5d : IxR X (rIx X.K) := z2P.or (z4Z.or z5P)
theorem q8B (its : List Value) (n j : Nat) (u : Value) : Obj.mapSeq (·.setIfInBounds j u) { cls := .type "list", data := .seq its.toArray n } = { cls := .type "list", data := .seq (its.set j u).toArray n } := by
 simp [Obj.mapSeq]
theorem Inv.lst {pins : List (Addr × Obj)} {σ : St} {H : Hp} {s : Shared} {p : Addr} {xs : List V} (I : Inv X pins σ H s) (h : H p = some (.lst xs)) :
  ∃ (its : List Value) (n : Nat), Vals xs its /\ s.heap.get? p = some { cls := .type "list", data := .seq its.toArray n } /\ xs.length <= sizeLine := by
 obtain ⟨z, its, n, r, e⟩ := I.hok p _ h
 exact ⟨its, n, r, e, z⟩
theorem Inv.lstUpd {pins : List (Addr × Obj)} {σ : St} {H : Hp} {s : Shared} {p : Addr} {xs ys : List V} {its its' : List Value} {n n' : Nat} {f : Obj -> Obj} (I : Inv X pins σ H s) (h : H p = some (.lst xs))
  (ho : s.heap.get? p = some { cls := .type "list", data := .seq its.toArray n }) (hf : f { cls := .type "list", data := .seq its.toArray n } = { cls := .type "list", data := .seq its'.toArray n' }) (r : Vals ys its') (hz : ys.length <= sizeLine) (t : Nat) :
  Inv X pins σ (upd H p (.lst ys)) { s with heap := s.heap.update p f, toks := t } := by
 have e : (s.heap.update p f).get? p = some { cls := .type "list", data := .seq its'.toArray n' } := by
  rw [Heap.get?_update_self f ho (by rw [hf] <;> rfl), hf]
 refine I.write (x := p) (e := p) (by rw [h]; trivial) (.inl rfl) (λ b u hb q => (Heap.get?_update_other _ _ (Ne.symm hb)).trans q) ⟨_, e⟩ ?_
 exact ⟨hz, its', n', r, e⟩
noncomputable def z6V : V -> V -> V -> Hp -> (Hp -> Prop) -> Prop := λ o i v H Q => ∃ p xs k j, o = .ref p /\ i = .int k /\ H p = some (.lst xs) /\ ixN xs.length k = some j /\ Q (upd H p (.lst (xs.set j v)))
theorem z1l : PSet X z6V := by
 intro pins s σ H o i v ov iv u Q I ro ri rv h
 obtain ⟨p, xs, k, j, rfl, rfl, hp, hj, q⟩ := h
 cases ro
 obtain ⟨t, rfl⟩ := ri
 obtain ⟨its, n, r, ho, hz⟩ := I.lst hp
 obtain ⟨h1, h2, h3, h4⟩ := z0O hj
 have hl := r.length
 have hn := q4B
 have I' : Inv X pins σ (upd H p (.lst (xs.set j v))) { s with heap := s.heap.update p (Obj.mapSeq (·.setIfInBounds j u)) } :=
  I.lstUpd hp ho (q8B its n j u) (r.set rv j) (by rw [List.length_set]; exact hz) s.toks
 by_cases h0 : 0 <= k
 ·have hk : k.toNat = j := by
   rw [seqIndex_of h0 h4] at h1
   exact Option.some.inj h1
  exact PySem.W.ki_setAt ho h0 (by omega) (by rw [List.size_toArray, <- hl]; exact h4) (by rw [hk]; exact ⟨_, I', q⟩)
 ·have hk : (k + (its.toArray.size : Int)).toNat = j := by
   rw [seqIndex_neg (by omega) h3] at h1
   rw [List.size_toArray, <- hl]
   exact Option.some.inj h1
  exact PySem.W.ki_setBack ho (by omega) (by rw [List.size_toArray, <- hl]; exact h3) (by omega) (by rw [hk]; exact ⟨_, I', q⟩)
theorem q5V (lo hi : Option Int) (n : Nat) : (sliceBounds lo hi none n).1 = ((HT.sIx n 0 lo : Nat) : Int) /\ (sliceBounds lo hi none n).2.1 = ((HT.sIx n n hi : Nat) : Int) /\ (sliceBounds lo hi none n).2.2 = 1 := by
 refine ⟨?_, ?_, rfl⟩
 ·cases lo with
  | none => simp [sliceBounds, HT.sIx]
  | some i =>
   simp only [sliceBounds, HT.sIx, Option.getD_none, show (1 : Int) > 0 by decide, if_true]
   by_cases h : i < 0
   ·simp only [h, if_true] <;> omega
   ·simp only [h, if_false] <;> omega
 ·cases hi with
  | none => simp [sliceBounds, HT.sIx]
  | some i =>
   simp only [sliceBounds, HT.sIx, Option.getD_none, show (1 : Int) > 0 by decide, if_true]
   by_cases h : i < 0
   ·simp only [h, if_true] <;> omega
   ·simp only [h, if_false] <;> omega
theorem q5C (its : List Value) (lo hi : Option Int) : slicePick its.toArray lo hi none = ((its.drop (HT.sIx its.length 0 lo)).take (HT.sIx its.length its.length hi - HT.sIx its.length 0 lo)).toArray := by
 obtain ⟨h1, h2, h3⟩ := q5V lo hi its.toArray.size
 unfold slicePick
 rw [h1, h2, h3]
 simp only [sliceRange_one, pick_run, List.size_toArray] <;> rfl
noncomputable def rSlL (K : PySem.W.Frag) : V -> Option Int -> Option Int -> Hp -> VK -> Prop := λ x lo hi H Q => ∃ a xs, x = .ref a /\ SqL K H a xs /\ ∀ p, H p = none -> Q (.ref p) (upd H p (.lst (cutV xs lo hi)))
theorem z3N : SlR X (rSlL X.K) := by
 intro pins s σ H x v vl vu lo hi sl Q I rx hs pl pu h
 obtain ⟨a, xs, rfl, hx, q⟩ := h
 cases rx
 obtain ⟨its, r, ht, hz⟩ := I.list hx
 have hlen := r.length
 refine ⟨"list", _, slot_list_getitem.lookup, ht.isList.typeIs, ?_⟩
 refine wpAny_getItem_list_slice ht.isList hs pl pu .none (by simp) ?_ (by rw [List.size_toArray] <;> omega)
 rw [q5C, <- hlen]
 refine ⟨.ref s.heap.objs.size, _, I.laid (t' := s.toks) (o := .lst (cutV xs lo hi)) (λ b ob q => Heap.get?_push_of_some _ q) (Nat.le_refl _) ?_, rfl, q _ (I.hok.fresh (Nat.le_refl _))⟩
 exact ⟨Nat.le_trans (q4j xs lo hi) hz, _, 0, (r.drop (HT.sIx xs.length 0 lo)).take (HT.sIx xs.length xs.length hi - HT.sIx xs.length 0 lo), Heap.get?_push_size _ rfl⟩
theorem q2D : q1o X (.builtin "len") (λ xs H Q => ∃ p ys, xs = [.ref p] /\ (SqL X.K H p ys \/ SqT X.K H p ys) /\ Q (.int ys.length) H) := by
 intro pins s σ H xs us Q I r h
 obtain ⟨p, ys, rfl, hq, q⟩ := h
 obtain ⟨u, rfl, rx⟩ := q3S r
 cases rx
 have hn := q4B
 rcases hq with hq | hq
 ·obtain ⟨its, r', pl, hz⟩ := I.list hq
  have hlen := r'.length
  exact Calls.call_len_list pl.isList (by simp only [List.size_toArray] <;> omega) ⟨.int ys.length, H, I.tok _, ⟨s.toks + 1, by rw [List.size_toArray, hlen]⟩, q⟩
 ·obtain ⟨its, r', pl, hz⟩ := I.tuple hq
  have hlen := r'.length
  exact len_tuple pl (by simp only [List.size_toArray] <;> omega) ⟨.int ys.length, H, I.tok _, ⟨s.toks + 1, by rw [List.size_toArray, hlen]⟩, q⟩
theorem q6v : q1o X (.builtin "len") (λ xs H Q => ∃ z, xs = [.str z] /\ z.length <= sizeLine /\ Q (.int z.length) H) := by
 intro pins s σ H xs us Q I r h
 obtain ⟨z, rfl, hz, q⟩ := h
 obtain ⟨u, rfl, t, rfl⟩ := q3S r
 have hn := q4B
 exact len_str (by omega) ⟨.int z.length, H, I.tok _, ⟨_, rfl⟩, q⟩
theorem q2w : q1o X (.type "list") (λ xs H Q => ∃ p ys, xs = [.ref p] /\ (SqL X.K H p ys \/ SqT X.K H p ys) /\ ∀ l, H l = none -> Q (.ref l) (upd H l (.lst ys))) := by
 intro pins s σ H xs us Q I r h
 obtain ⟨p, ys, rfl, hq, q⟩ := h
 obtain ⟨u, rfl, rx⟩ := q3S r
 cases rx
 have fin : ∀ (its : List Value), Vals ys its -> ys.length <= sizeLine -> ∀ (h' : Heap) (c' : Nat), (∀ b o', s.heap.get? b = some o' -> h'.get? b = some o') ->
   h'.get? s.heap.objs.size = some { cls := .type "list", dict := none, data := .seq its.toArray c', slots := #[] } -> EP X pins σ Q (.ref s.heap.objs.size) { s with heap := h' } := λ its r' hz h' c' kp e =>
  ⟨.ref s.heap.objs.size, _, I.laid (t' := s.toks) kp (Nat.le_refl _) (show q1v X.prog X.w _ h' _ (.lst ys) from ⟨hz, its, c', r', e⟩), rfl, q _ (I.hok.fresh (Nat.le_refl _))⟩
 rcases hq with hq | hq
 ·obtain ⟨its, r', pl, hz⟩ := I.list hq
  have hlen := r'.length
  obtain ⟨o, ho, hc, n, hd⟩ := pl.isList
  exact call_list_seq p (.inl rfl) ho hc hd (λ h' c' kp e => fin its r' hz h' c' kp e) (by simp only [List.size_toArray] <;> omega)
 ·obtain ⟨its, r', pl, hz⟩ := I.tuple hq
  have hlen := r'.length
  obtain ⟨o, ho, hc, n, hd⟩ := pl
  exact call_list_seq p (.inr rfl) ho hc hd (λ h' c' kp e => fin its r' hz h' c' kp e) (by simp only [List.size_toArray] <;> omega)
theorem q3g : q1o X (.type "tuple") (λ xs H Q => ∃ p ys, xs = [.ref p] /\ ((SqL X.K H p ys /\ ∀ l, H l = none -> Q (.ref l) (upd H l (.tup ys))) \/ (SqT X.K H p ys /\ Q (.ref p) H))) := by
 intro pins s σ H xs us Q I r h
 obtain ⟨p, ys, rfl, h⟩ := h
 obtain ⟨u, rfl, rx⟩ := q3S r
 cases rx
 rcases h with ⟨hq, q⟩ | ⟨hq, q⟩
 ·obtain ⟨its, r', pl, hz⟩ := I.list hq
  have hlen := r'.length
  refine call_tuple_list pl.isList (λ h' kp => ?_) (by simp only [List.size_toArray] <;> omega)
  have I1 : Inv X pins σ H { s with heap := h' } := I.kept (t' := s.toks) kp
  have I2 : Inv X pins σ (upd H h'.objs.size (.tup ys)) { s with heap := h'.push { cls := .type "tuple", data := .seq its.toArray } } :=
   I1.laid (t' := s.toks) (λ b o e => Heap.get?_push_of_some _ e) (Nat.le_refl _) (show q1v X.prog X.w _ _ _ (.tup ys) from ⟨hz, its, r', q3k.new _ _⟩)
  exact ⟨.ref h'.objs.size, _, I2, rfl, q _ (I1.hok.fresh (Nat.le_refl _))⟩
 ·obtain ⟨its, r', pl, hz⟩ := I.tuple hq
  exact call_tuple_same pl ⟨.ref p, H, I, rfl, q⟩
noncomputable def tyV (K : PySem.W.Frag) (T : String) (x : V) (H : Hp) : Prop := match x with
 | .str _ => T = "str"
 | .int _ => T = "int"
 | .ref p => (T = "list" /\ ∃ xs, SqL K H p xs) \/ (T = "tuple" /\ ∃ o, K.lookup p = some o /\ o.cls = .type "tuple" /\ o.dict = none) \/
   (T = "dict" /\ ((∃ kvs, H p = some (.dK kvs)) \/ ∃ kvs, H p = some (.dT kvs))) \/ (T = "set" /\ ∃ S n, H p = some (.set S n))
 | _ => False
theorem z6p {pins : List (Addr × Obj)} {σ : St} {H : Hp} {s : Shared} {T : String} {x : V} {v : Value} (I : Inv X pins σ H s) (r : RelV x v) (ty : tyV X.K T x H) :
  s.TypeIs v T /\ ∀ a, v = .ref a -> ∃ ob, s.heap.get? a = some ob /\ ob.dict = none := by
 cases x with
 | str z =>
  obtain ⟨t, rfl⟩ := r
  cases (show T = "str" from ty)
  exact ⟨typeIs_str s z t, λ _ e => nomatch e⟩
 | int i =>
  obtain ⟨t, rfl⟩ := r
  cases (show T = "int" from ty)
  exact ⟨typeIs_int s i t, λ _ e => nomatch e⟩
 | ref p =>
  cases r
  rcases ty with ⟨rfl, xs, hq⟩ | ⟨rfl, o, hk, hc, hd⟩ | ⟨rfl, hk⟩ | ⟨rfl, S, n, hk⟩
  ·obtain ⟨its, _, pl, _⟩ := I.list hq
   refine ⟨pl.isList.typeIs, λ a e => ?_⟩
   cases e
   obtain ⟨o, n, e, c, hd, _⟩ := pl
   exact ⟨o, e, hd⟩
  ·refine ⟨⟨o, I.kIn p o hk, hc⟩, λ a e => ?_⟩
   cases e
   exact ⟨o, I.kIn _ o hk, hd⟩
  ·have z : ∃ o, s.heap.get? p = some o /\ o.ExactDict := by
    rcases hk with ⟨kvs, hk⟩ | ⟨kvs, hk⟩
    ·obtain ⟨_, _, _, _, o, _, _, e, ex, _⟩ := I.hok p _ hk
     exact ⟨o, e, ex⟩
    ·obtain ⟨_, _, _, _, o, _, _, e, ex, _⟩ := I.hok p _ hk
     exact ⟨o, e, ex⟩
   obtain ⟨o, e, ex⟩ := z
   refine ⟨⟨o, e, ex.1⟩, λ a e2 => ?_⟩
   cases e2
   exact ⟨o, e, ex.2.1⟩
  ·obtain ⟨o, _, _, _, e, ex, _⟩ := I.hok p _ hk
   refine ⟨⟨o, e, ex.1⟩, λ a e2 => ?_⟩
   cases e2
   exact ⟨o, e, ex.2.1⟩
 | _ => exact False.elim ty
noncomputable def tBM (K : PySem.W.Frag) (T : String) (r : V -> List V -> Hp -> VK -> Prop) (to : TE) (t : TA) : TE := λ σ H Q => to σ H λ x H1 => tyV K T x H1 /\ t σ H1 λ xs H2 => r x xs H2 Q
variable {o e : Expr} {es : List Expr} {to : TE} {t : TA} {name : Str} {apos cpos : Pos} {T id : String} {r : V -> List V -> Hp -> VK -> Prop}
theorem z5O (pa : PlainAttrs T) (slot : Slot T name id) (hty : typeOf (.builtin id) = pure (.type "method_descriptor")) (hm : MtR X id r) (ho : PE X o to) (ha : PA X (e :: es) t)
  (hbase : attributeBase o name X.env (eval o X.env) = eval o X.env := by rfl)
  (hfew : ((backTo cpos (starEach (e :: es) X.env)).all (λ x => !x.1) && (backToKw cpos (keywordEach [] X.env)).all (λ x => x.1.isSome)
   && decide ((e :: es).length + ([] : List Keyword).length + (if ([] : List Keyword).isEmpty then 0 else 1) < 30)) = true := by rfl)
  (hline : (apos.endLine == cpos.line) = true := by rfl) (hs : starEach (e :: es) X.env = (false, eval e X.env) :: starEach es X.env := by rfl) (hplain : (backTo cpos (starEach es X.env)).any (·.1) = false := by rfl) :
  PE X (.Call (.Attribute o name apos) (e :: es) [] cpos) (tBM X.K T r to t) := by
 intro pins s σ H Q I h
 refine wpAny_Call_method_late hbase hfew hline rfl (thn (ho pins s σ H _ I h) λ v s1 ⟨x, H1, I1, r1, ty, q1⟩ => ?_)
 obtain ⟨h1, h2⟩ := z6p I1 r1 ty
 refine ⟨T, id, pa, slot, hty, h1, h2, ?_⟩
 have hA := ha cpos pins s1 σ H1 _ I1 q1
 rw [hs] at hA ⊢
 refine Calls.callWith_builtin (by show (false || (backTo cpos (starEach es X.env)).any (·.1)) = false; rw [hplain] <;> rfl) (Calls.evalArgs_plain ?_)
 exact thn hA λ us s2 ⟨vs, H2, I2, r2, q2⟩ => hm pins s2 σ H2 x vs v us Q I2 r1 r2 q2
end
end L2
namespace L2
open PySem PySem.Spec PyProof.Rows
noncomputable def MtM (X : Cx) (id : String) (r : V -> List V -> Hp -> VK -> Prop) : Prop :=
 ∀ (pins : List (Addr × Obj)) (s : Shared) (σ : St) (H : Hp) (x : V) (xs : List V) (v : Value) (us : List Value) (Q : VK), Inv X pins σ H s -> RelV x v -> Vals xs us -> r x xs H Q ->
  wpAny (model X.prog X.w) X.A (call (.builtin id) (v :: us)) (EP X pins σ Q) X.xe s
theorem Vals.unc {x : V} {xs : List V} {us : List Value} (h : Vals (x :: xs) us) : ∃ u ws, us = u :: ws /\ RelV x u /\ Vals xs ws := by
 cases h with
 | cons r t => exact ⟨_, _, rfl, r, t⟩
theorem Vals.nl {us : List Value} (h : Vals [] us) : us = [] := by cases h; rfl
theorem Vals.one {x : V} {us : List Value} (h : Vals [x] us) : ∃ u, us = [u] /\ RelV x u := by
 obtain ⟨u, ws, rfl, r, t⟩ := h.unc
 cases t.nl
 exact ⟨_, rfl, r⟩
theorem Vals.two {x y : V} {us : List Value} (h : Vals [x, y] us) : ∃ u v, us = [u, v] /\ RelV x u /\ RelV y v := by
 obtain ⟨u, ws, rfl, r, t⟩ := h.unc
 obtain ⟨v, rfl, q⟩ := t.one
 exact ⟨_, _, rfl, r, q⟩
theorem Vals.rep {xs : List V} {us : List Value} (h : Vals xs us) : ∀ k : Nat, Vals (List.replicate k xs).flatten (List.replicate k us).flatten
 | 0 => .nil
 | k + 1 => by
  rw [List.replicate_succ, List.replicate_succ, List.flatten_cons, List.flatten_cons]
  exact Vals.append h (Vals.rep h k)
theorem q6l (its : List Value) : ∀ (k : Nat) (acc : List Value),
  List.foldl (λ x1 x2 => x1 ++ x2) acc.toArray (List.replicate k its.toArray) = (acc ++ (List.replicate k its).flatten).toArray
 | 0, acc => by simp
 | k + 1, acc => by
  have e : acc.toArray ++ its.toArray = (acc ++ its).toArray := by simp
  have e2 : (acc ++ its) ++ (List.replicate k its).flatten = acc ++ (List.replicate (k + 1) its).flatten := by
   rw [List.replicate_succ, List.flatten_cons, List.append_assoc]
  rw [<- e2, <- q6l its k (acc ++ its), <- e, List.replicate_succ, List.foldl_cons]
section
variable {X : Cx} {pins : List (Addr × Obj)} {σ : St} {H : Hp} {s : Shared} {l b : Addr} {xs ys zs : List V}
theorem Inv.lset {its its' : List Value} {n : Nat} {f : Array Value -> Array Value} {t' : Nat} (I : Inv X pins σ H s) (hH : H l = some (.lst xs))
  (e : s.heap.get? l = some { cls := .type "list", data := .seq its.toArray n }) (hf : f its.toArray = its'.toArray) (hv : Vals ys its') (hz : ys.length <= sizeLine) :
  Inv X pins σ (upd H l (.lst ys)) { s with heap := s.heap.update l (Obj.mapSeq f), toks := t' } := by
 have q := PySem.IsL.update e f
 rw [hf] at q
 refine I.write (x := l) (e := l) (by rw [hH]; exact trivial) (.inl rfl) (λ b' u hb hu => (Heap.get?_update_other s.heap (Obj.mapSeq f) (Ne.symm hb)).trans hu) ⟨_, q⟩ ?_
 exact ⟨hz, its', _, hv, q⟩
theorem Inv.lnew {its : List Value} {t' : Nat} (I : Inv X pins σ H s) (hv : Vals ys its) (hz : ys.length <= sizeLine) :
  Inv X pins σ (upd H s.heap.objs.size (.lst ys)) { s with heap := s.heap.push { cls := .type "list", data := .seq its.toArray }, toks := t' } :=
 I.laid (λ _ _ q => Heap.get?_push_of_some _ q) (Nat.le_refl _) ⟨hz, its, 0, hv, Heap.get?_push_size _ rfl⟩
theorem Inv.fresh (I : Inv X pins σ H s) : H s.heap.objs.size = none := I.hok.fresh (Nat.le_refl _)
theorem Inv.lstM (I : Inv X pins σ H s) (hH : H l = some (.lst xs)) : xs.length <= sizeLine /\ ∃ (its : List Value) (n : Nat), Vals xs its /\ xs.length = its.length /\ s.heap.get? l = some { cls := .type "list", data := .seq its.toArray n } := by
 obtain ⟨z, its, n, r, e⟩ := I.hok l _ hH
 exact ⟨z, its, n, r, r.length, e⟩
theorem q7F {n : Nat} (h : n <= sizeLine) : Builtin.List.listTooLong n = false := by
 unfold Builtin.List.listTooLong
 exact decide_eq_false (by omega)
end
section
variable {X : Cx}
noncomputable def z3E : V -> List V -> Hp -> VK -> Prop := λ x vs H Q => ∃ l xs y, x = .ref l /\ vs = [y] /\ H l = some (.lst xs) /\ xs.length < sizeLine /\ Q .non (upd H l (.lst (xs ++ [y])))
theorem q9u : MtM X "list.append" z3E := by
 intro pins s σ H x vs v us Q I rx rv h
 obtain ⟨l, xs, y, rfl, rfl, hH, hz, q⟩ := h
 cases rx
 obtain ⟨u, rfl, ru⟩ := rv.one
 obtain ⟨z, its, n, r, hl, e⟩ := I.lstM hH
 refine call_meets F.slot_list_append ⟨_, e, rfl⟩ F.entry_list_append (F.args_list_append_2 _ _) (PySem.list_append l its.toArray n u (by rw [List.size_toArray]; omega)) ⟨e, ?_⟩
 refine ⟨.non, _, I.lset (its' := its ++ [u]) hH e (by simp) (r.append (.cons ru .nil)) ?_, rfl, q⟩
 rw [List.length_append, List.length_singleton]
 omega
noncomputable def rCat : R2 := λ x y H Q => ∃ l b xs zs, x = .ref l /\ y = .ref b /\ H l = some (.lst xs) /\ H b = some (.lst zs) /\ xs.length + zs.length <= sizeLine /\ ∀ p, H p = none -> Q (.ref p) (upd H p (.lst (xs ++ zs)))
theorem z5e : OpR X (binaryOp .Add) rCat := by
 intro pins s σ H x y v u Q I rx ry h
 obtain ⟨l, b, xs, zs, rfl, rfl, hH, hB, hz, q⟩ := h
 cases rx
 cases ry
 obtain ⟨z, its, n, r, hl, e⟩ := I.lstM hH
 obtain ⟨z2, its2, n2, r2, hl2, e2⟩ := I.lstM hB
 refine PySem.P.add_list e e2 ?_ (by rw [List.size_toArray, List.size_toArray]; omega)
 have ea : its.toArray ++ its2.toArray = (its ++ its2).toArray := by simp
 rw [ea]
 exact ⟨.ref _, _, I.lnew (t' := s.toks) (r.append r2) (by rw [List.length_append]; omega), rfl, q _ I.fresh⟩
noncomputable def rRep : R2 := λ x y H Q => ∃ l k xs, x = .ref l /\ y = .int k /\ H l = some (.lst xs) /\ -(2 ^ 63) <= k /\ k < 2 ^ 63 /\ xs.length * k.toNat <= sizeLine /\
 ∀ p, H p = none -> Q (.ref p) (upd H p (.lst (List.replicate k.toNat xs).flatten))
theorem z3O {α : Type} (xs : List α) (k : Nat) : (List.replicate k xs).flatten.length = k * xs.length := by
 induction k with
 | zero => simp
 | succ k ih => rw [List.replicate_succ, List.flatten_cons, List.length_append, ih, Nat.succ_mul, Nat.add_comm]
theorem z5l : OpR X (binaryOp .Mult) rRep := by
 intro pins s σ H x y v u Q I rx ry h
 obtain ⟨l, k, xs, rfl, rfl, hH, h1, h2, hz, q⟩ := h
 cases rx
 obtain ⟨t, rfl⟩ := ry
 obtain ⟨z, its, n, r, hl, e⟩ := I.lstM hH
 have hlen : its.toArray.size * k.toNat <= sizeLine := by rw [List.size_toArray, <- hl]; exact hz
 have hcap : ¬ its.toArray.size * k.toNat > (2 ^ 63 - 1) / 8 := by
  have : (sizeLine : Nat) <= (2 ^ 63 - 1) / 8 := by decide
  omega
 have hfit : ¬ (!Builtin.List.listFitsIndex k) = true := by
  rw [fitsIndex_both h1 h2]
  exact Bool.false_ne_true
 have hlong : ¬ Builtin.List.listTooLong (its.toArray.size * k.toNat) = true := by
  rw [q7F hlen]
  exact Bool.false_ne_true
 have hnew : List.foldl (λ x1 x2 => x1 ++ x2) #[] (List.replicate (if its.toArray.isEmpty = true then 0 else k.toNat) its.toArray) = (List.replicate k.toNat its).flatten.toArray := by
  have f0 : ∀ m : Nat, List.foldl (λ x1 x2 => x1 ++ x2) #[] (List.replicate m its.toArray) = (List.replicate m its).flatten.toArray := λ m => by
   have := q6l its m []
   rw [List.nil_append] at this
   exact this
  rw [f0]
  cases its with
  | nil => simp
  | cons a r' => rw [if_neg (by simp)]
 refine wpAny_binaryOp_repeat_ref (T := "list") (U := "int") (by decide) ⟨_, e, rfl⟩ (λ s' => typeIs_int s' k t) noFill_list_mul F.fills_int_mul F.slot_int_rmul repeat_list F.slot_int_index.lookup
  (call_meets F.slot_int_rmul (typeIs_int s k t) F.entry_int_rmul (F.args_int_rmul_2 _ _) (int___rmul___int_list k t l its.toArray n)
   ⟨e, rfl, ⟨_, e, rfl⟩, call_meets F.slot_list_mul ⟨_, e, rfl⟩ F.entry_list_mul (F.args_list_mul_2 _ _) (AutoListH.list___mul___list_int_3 l its.toArray n k t hfit hcap hlong) ⟨e, ?_⟩⟩)
 rw [hnew]
 exact ⟨.ref _, _, I.lnew (t' := s.toks) (r.rep k.toNat) (by rw [z3O, Nat.mul_comm]; exact hz), rfl, q _ I.fresh⟩
end
section
variable {prog : Program} {w : World} {A : Around} {E : Value -> Shared -> Prop} {s : Shared}
end
section
variable {X : Cx}
end
end L2
namespace Att
open PySem PySem.W PySem.Calls PyProof.Rows
theorem q4q {P : Params} {h : Heap} : ∀ (ns : List Int) (vs : List Value), WellAll P h vs (ns.map WData.int) -> IntsAre vs ns := by
 intro ns
 induction ns with
 | nil =>
  intro vs w
  rw [List.map_nil] at w
  cases w
  exact .nil
 | cons n ns ih =>
  intro vs w
  rw [List.map_cons] at w
  cases w with
  | cons a b =>
   cases a
   exact .cons _ _ (ih _ b)
theorem z0f {l : OpenLaw} {n : Nat} (hn : l.most = some n) {P : Params} {h : Heap} {args : List WData} {vals : List Value}
  (hpre : l.row.toRowW.claim.pre args = true) (hwl : WellAll P h vals args) :
  ∃ a vs ns, vals = [Value.ref a] /\ args = [WData.list (ns.map WData.int)] /\ h.get? a = some { cls := .type "list", data := .seq vs.toArray } /\ IntsAre vs ns /\ ns.length <= n := by
 have hsh : WShape.hasAll [] args [.list .int] = true := (pre_splitW hpre).1
 have hc : l.pre.holds [] { args := args } = true := (pre_splitW hpre).2
 obtain ⟨d, r, rfl, h1, h2⟩ := hasAllW_cons hsh
 obtain rfl := hasAllW_nil h2
 obtain ⟨xs, rfl, h3⟩ := hasW_list h1
 obtain ⟨ns, rfl⟩ := items_int h3
 have hlen : ns.length <= n := by
  unfold OpenLaw.pre at hc
  have h4 : (WTm.not (.lt (.lit (.int (n : Int))) (.len (.arg 0)))).holds [] { args := [.list (ns.map .int)] } = true := by
   have h4 := (holds_andW hc).1
   rw [hn] at h4
   exact h4
  have h5 := condW_of h4 (w_not (w_lt w_lit (w_len_list (w_arg rfl))))
  rw [List.length_map] at h5
  refine Nat.le_of_not_lt λ q => ?_
  have q' : (n : Int) < ((ns.length : Nat) : Int) := by omega
  first
   | (rw [decide_eq_true q'] at h5; exact absurd h5 (by decide))
   | (simp at h5; omega)
 cases hwl with
 | cons w1 w2 =>
  cases w2
  cases w1 with
  | list ho hall => exact ⟨_, _, ns, rfl, rfl, ho, q4q ns _ hall, hlen⟩
theorem z0I (l : OpenLaw) (args : List WData) : l.row.toRowW.claim.post args (.bool true) args = true :=
 postW_of (r := l.row.toRowW) (X := (true == true))
  (show WShape.has [] (.bool true) .bool = true by first | rfl | decide | simp [WShape.has, WShape.arms, WShape.armsAll])
  (show (WTm.eq .res (.lit (.bool true))).value [] { args := args, res := some (.bool true), after := args } = some (.bool (true == true)) from w_eq_bool (w_res rfl) w_lit) rfl
theorem attach_call {l : OpenLaw} {n : Nat} {q : Program} {loose : List Str} {XP : (Str -> Option Value) -> Heap -> Prop} {YP : World -> Heap -> Prop} {d : DefRec}
  (hn : l.most = some n) (hdf : d.params.defaults = [])
  (call : ∀ (w : World) (s₀ sA : Shared) (mg mb : Str -> Option Value) (fa : Addr) (o : Obj) (pm cd doc : Value) (a : Addr) (vs : List Value) (ns : List Int),
   Ground q loose [] XP w s₀ mg mb sA.heap -> YP w sA.heap ->
   sA.heap.get? fa = some o -> o.data = .func (docDef d.name d.params d.body d.scope pm cd doc) -> sA.heap.CodeRec cd d.name -> mg d.name = some (.ref fa) ->
   sA.heap.get? a = some { cls := .type "list", data := .seq vs.toArray } -> IntsAre vs ns -> ns.length <= n -> sA.gens = #[] ->
   codeAny (model l.prog w) callerA (.call (.ref fa) ⟨[.ref a], []⟩) (λ r s' => r = .ok (.ret (.bool true)) /\ OldK sA.heap s'.heap /\ s'.os = sA.os /\ AllBare s'.gens) sA) :
  WalkO q loose XP YP l.row.toRowW d [] (λ f vs => PySem.call f vs) := by
 intro w s₀ sA mg mb G Y fa o pm cd doc dV kV ho hd hcd hD hmg hg args vals as hpre hlay hrd hwl hlo
 obtain rfl : dV = .none := Dflts.none hD hdf
 obtain rfl : kV = .none := Dflts.noKw hD
 obtain ⟨a, vs, ns, rfl, rfl, hobj, hints, hlen⟩ := z0f hn hpre hwl
 refine enter_call (codeAny_mono (call w s₀ sA mg mb fa o pm cd doc a vs ns G Y ho (fd_plain hd) hcd hmg hobj hints hlen hg) λ r s' hq => ?_)
 obtain ⟨rfl, h2, h3, h4⟩ := hq
 exact ⟨.inl ⟨.bool true, .bool true, [], rfl, λ _ => rfl, .bool true, z0I l _, λ _ => ⟨List.Pairwise.nil, λ _ hm => (nomatch hm)⟩⟩, h2, h3, h4⟩
section
variable {prog : Program} {w : World} {A : Around} {E : Value -> Shared -> Prop} {s : Shared} {K : Frag}
noncomputable def z8h (h : Heap) (L d : Addr) : List (Addr × Obj) := (List.range h.objs.size).filterMap λ a => if a = L \/ a = d then none else (h.get? a).map λ o => (a, o)
end
end Att
namespace L2
open PySem PySem.Spec PyProof.Rows
theorem q6I : ∀ {vs : List Value} {ns : List Int}, IntsAre vs ns -> Vals (ns.map V.int) vs
 | _, _, .nil => .nil
 | _, _, .cons n t h => .cons ⟨t, rfl⟩ (q6I h)
noncomputable def Only (H : Hp) : Prop := ∀ b, H b = none \/ ∃ o xs, H b = some (.frz o (.lst xs))
theorem z0V {P : Program} {w : World} {K : PySem.W.Frag} {mg mb : Str -> Option Value} {CX : CXT} {k : Nat} {fa a : Addr} {fd : FuncData} {x : Str} {sp : Sp} {sA : Shared} {vs : List Value} {ns : List Int}
  (KX : K.In sA.heap) (hns : sA.heap.Ns mainGlobals mg) (hb : sA.heap.Ns builtinsNs mb) (hbb : ∀ x : Str, x ≠ "__name__" -> mb x = bootBuiltins x) (hlim : sA.heap.NoLimit) (hg : sA.gens = #[])
  (ha : sA.heap.get? a = some { cls := .type "list", data := .seq vs.toArray }) (hi : IntsAre vs ns) (hl : ns.length <= sizeLine) (hr : Room k callerA)
  (F : ∀ base : Heap, K.In base -> base.Ns mainGlobals mg -> FnOk P w K mg base CX k fa fd [x] sp) (hbind : ∀ (s : Shared) (u : Value), BindsTo s fd ⟨[u], []⟩ [(x, u)])
  (hsp : ∀ H : Hp, Only H -> SqL K H a (ns.map V.int) -> sp [.ref a] H (λ v _ => v = .bl true) λ _ _ _ => False)
  (hCX : ∀ H e s', CX [] H sA (λ _ _ _ => False) e s' -> False) :
  codeAny (model P w) callerA (.call (.ref fa) ⟨[.ref a], []⟩) (λ r s' => r = .ok (.ret (.bool true)) /\ OldK sA.heap s'.heap /\ s'.os = sA.os /\ AllBare s'.gens) sA := by
 have rv := q6I hi
 have lenV := hi.length
 have core : ∀ H : Hp, Only H -> SqL K H a (ns.map V.int) -> HOk P w H sA.heap -> (∀ b, H b ≠ none -> b = a) -> (H a ≠ none -> K.lookup a = none) ->
   codeAny (model P w) callerA (.call (.ref fa) ⟨[.ref a], []⟩) (λ r s' => r = .ok (.ret (.bool true)) /\ OldK sA.heap s'.heap /\ s'.os = sA.os /\ AllBare s'.gens) sA := by
  intro H hO hS hok hA hK
  have base_of : ∀ {b : Addr} {o : Obj}, sA.heap.get? b = some o -> H b = none -> (hidT sA.heap H).get? b = some o := λ e n => z0Z e n
  have noA : ∀ {b : Addr} {o : Obj} {es : Array DictEntry} {ep : Nat}, sA.heap.get? b = some o -> o.data = .dict es ep -> H b = none := λ {b o es ep} e d => by
   cases q : H b with
   | none => rfl
   | some u =>
    have e' : b = a := hA b (by rw [q]; simp)
    subst e'
    rw [ha] at e; cases e
    have d' : Data.seq vs.toArray _ = Data.dict es ep := d
    cases d'
  have nsK : ∀ {b : Addr} {m : Str -> Option Value}, sA.heap.Ns b m -> (hidT sA.heap H).Ns b m := λ {b m} ⟨o, es, ep, e, d, r⟩ => ⟨o, es, ep, base_of e (noA e d), d, r⟩
  have hKb : K.In (hidT sA.heap H) := λ b o e => base_of (KX b o e) (by
   cases q : H b with
   | none => rfl
   | some u =>
    have e' : b = a := hA b (by rw [q]; simp)
    subst e'
    rw [hK (by rw [q]; simp)] at e; cases e)
  have hM : Mod K mg (hidT sA.heap H) := ⟨hKb, nsK hns, ⟨mb, nsK hb, hbb⟩, let ⟨mc, h1, h2⟩ := hlim; ⟨mc, nsK h1, h2⟩⟩
  have e0 : Env0 P w K mg (hidT sA.heap H) callerA [] sA H := ⟨rfl, hM, λ b o e => z4D e, Nat.le_of_eq (q9X _ _), trivial, λ b hb => absurd (show b ∈ ([] : List Addr) from hb) (by simp), hok, .of_eq hg⟩
  refine codeAny_mono ((F _ hKb (nsK hns)).run callerA [] sA H ⟨[.ref a], []⟩ [.ref a] [.ref a] _ _ hr e0 (hbind sA (.ref a)) (.cons rfl .nil) (hsp H hO hS)) λ r s' h => ?_
  cases r with
  | error e => exact (hCX H e s' h).elim
  | ok fl =>
   cases fl with
   | next => exact False.elim h
   | brk => exact False.elim h
   | cont => exact False.elim h
   | ret u =>
    obtain ⟨v, H', os, bare, un, hok', r', q⟩ := h
    have q' : v = .bl true := q
    subst q'
    obtain rfl : u = Value.bool true := r'
    refine ⟨rfl, OldK.of_keep λ b o e => ?_, os, bare⟩
    cases q : H b with
    | none => exact un.keep b o e q (by intro z; exact absurd (show b ∈ ([] : List Addr) from z) (by simp)) (by simp)
    | some u =>
     rcases hO b with z | ⟨ob, xs, z⟩
     ·rw [q] at z; cases z
     ·have z2 := un.frzs b ob _ z
      obtain ⟨e1, _⟩ := hok b _ z
      obtain ⟨e2, _⟩ := hok' b _ z2
      rw [e] at e1; cases e1
      exact e2
 cases hk : K.lookup a with
 | some o =>
  have e := KX a o hk
  rw [ha] at e
  cases e
  refine core (λ _ => none) (λ _ => .inl rfl) (.inr ⟨_, vs.toArray, _, hk, rfl, rfl, rfl, by rw [List.size_toArray, lenV]; exact hl, by simpa using rv⟩) (λ b u z => by have z' : (none : Option HO) = some u := z; cases z') (λ b z => absurd rfl z) λ z => absurd rfl z
 | none =>
  refine core (λ b => if b = a then some (.frz { cls := .type "list", data := .seq vs.toArray } (.lst (ns.map V.int))) else none) (λ b => ?_) (.inl (.inr ⟨{ cls := .type "list", data := .seq vs.toArray }, if_pos rfl⟩)) (λ b u z => ?_) (λ b z => ?_) λ _ => hk
  ·by_cases hb : b = a
   ·exact .inr ⟨_, _, if_pos hb⟩
   ·exact .inl (if_neg hb)
  ·by_cases hb : b = a
   ·have z' := (if_pos hb).symm.trans z
    cases z'
    subst hb
    exact ⟨ha, by rw [List.length_map]; exact hl, vs, _, rv, ha⟩
   ·have z' := (if_neg hb).symm.trans z
    cases z'
  ·by_cases hb : b = a
   ·exact hb
   ·exact absurd (if_neg hb) z
end L2
namespace L2
open PySem PySem.Spec PyProof.Rows
noncomputable abbrev KOf {K : PySem.W.Frag} {h : Heap} (_ : K.In h) : PySem.W.Frag := K
theorem walk_of {l : PySem.W.OpenLaw} {n k : Nat} {q : Program} {loose : List Str} {XP : (Str -> Option Value) -> Heap -> Prop} {YP : World -> Heap -> Prop} {d : DefRec} {K : Params -> PySem.W.Frag} {CX : World -> CXT} {sp : World -> Sp} {x : Str}
  (hn : l.most = some n) (hn2 : n <= sizeLine) (hdf : d.params.defaults = []) (hr : Room k callerA)
  (hY : ∀ (w : World) (h : Heap), YP w h -> (K w.params).In h)
  (F : ∀ (w : World) (mg : Str -> Option Value) (fa : Addr) (h : Heap), (K w.params).In h -> h.Ns mainGlobals mg -> mg d.name = some (.ref fa) ->
   ∃ fd : FuncData, (∀ (s : Shared) (u : Value), BindsTo s fd ⟨[u], []⟩ [(x, u)]) /\
    ∀ base : Heap, (K w.params).In base -> base.Ns mainGlobals mg -> FnOk l.prog w (K w.params) mg base (CX w) k fa fd [x] (sp w))
  (hsp : ∀ (w : World) (H : Hp) (a : Addr) (ns : List Int), ns.length <= n -> Only H -> SqL (K w.params) H a (ns.map V.int) -> sp w [.ref a] H (λ v _ => v = .bl true) λ _ _ _ => False)
  (hCX : ∀ (w : World) (H : Hp) (s : Shared) (e : Value) (s' : Shared), CX w [] H s (λ _ _ _ => False) e s' -> False) :
  PySem.W.WalkO q loose XP YP l.row.toRowW d [] (λ f vs => PySem.call f vs) := by
 refine Att.attach_call hn hdf λ w s₀ sA mg mb fa o pm cd doc a vs ns G Y ho hd hcd hmg hobj hints hlen hg => ?_
 have KX := hY w _ Y
 obtain ⟨fd, hb, hF⟩ := F w mg fa _ KX G.T.g hmg
 exact z0V KX G.T.g G.T.b G.T.builtins G.T.nolimit hg hobj hints (Nat.le_trans hlen hn2) hr hF hb (λ H hO hS => hsp w H a ns hlen hO hS) λ H e s' => hCX w H sA e s'
end L2
namespace L2
open PySem PySem.Spec PyProof.Rows
noncomputable def q0r (s : Stmt) : Arguments := match s with
 | .FunctionDef _ a _ _ _ _ _ _ _ _ => a
 | _ => { posonlyargs := [], args := [], vararg := none, kwonlyargs := [], kw_defaults := [], kwarg := none, defaults := [] }
noncomputable def q0l (s : Stmt) : List Stmt := match s with
 | .FunctionDef _ _ b _ _ _ _ _ _ _ => b
 | _ => []
noncomputable def q0c (s : Stmt) : Scope := match s with
 | .FunctionDef _ _ _ _ _ _ sc _ _ _ => sc
 | _ => { kind := .function, names := [], isGenerator := false, isCoroutine := false }
noncomputable abbrev CX0 : CXT := λ _ _ _ _ _ _ => False
noncomputable abbrev E0 : XK := λ _ _ _ => False
structure Fun (K : PySem.W.Frag) (x qual : Str) (st : Stmt) (f : Addr) (fd : FuncData) : Prop where
 ex : ∃ (oc : Value) (od : Option Addr) (kV doc pm : Value) (an : Option Addr) (cdv ct : Value) (osl : Array (Option Value)),
  fd = PySem.W.fnOf x qual (q0r st) (q0l st) (q0c st) .none kV doc pm an cdv ct /\ K.lookup f = some ⟨oc, od, .func fd, osl⟩ /\ PySem.W.codeIn K cdv qual = true
 kp : PySem.W.keepIn K (.ref f) = true
section
variable {P : Program} {w : World} {K : PySem.W.Frag} {mg : Str -> Option Value} {base : Heap}
end
section
variable {X : Cx}
end
theorem iteF {A B : Prop} (h : B) : if false = true then A else B := by
 rw [if_neg Bool.false_ne_true]
 exact h
theorem iteT {A B : Prop} (h : A) : if true = true then A else B := by
 rw [if_pos rfl]
 exact h
noncomputable def Same (H H' : Hp) : Prop := ∀ b o, H b = some o -> H' b = some o
theorem Same.refl (H : Hp) : Same H H := λ _ _ h => h
theorem Same.trans {H H1 H2 : Hp} (a : Same H H1) (b : Same H1 H2) : Same H H2 := λ c o h => b c o (a c o h)
theorem Same.free {H H' : Hp} (e : Same H H') {l : Addr} (h : H' l = Option.none) : H l = Option.none := by
 cases q : H l with
 | none => rfl
 | some o =>
  rw [e l o q] at h
  cases h
theorem Same.seq {K : PySem.W.Frag} {H H' : Hp} {a : Addr} {xs : List V} (e : Same H H') (h : SqL K H a xs) : SqL K H' a xs := by
 rcases h with (h | ⟨o, h⟩) | h
 ·exact .inl (.inl (e _ _ h))
 ·exact .inl (.inr ⟨o, e _ _ h⟩)
 ·exact .inr h
end L2
end
section
namespace L2
open PySem PySem.Spec PyProof.Rows
noncomputable def q0m (cells : List (Str × Addr)) : List (Str × NameKind) -> List (Str × Addr) -> List (Str × Addr)
 | [], acc => acc
 | (n, k) :: r, acc => if (k == NameKind.free) = true then q0m cells r ((n, (cells.lookup n).getD 0) :: acc) else q0m cells r acc
theorem q1U {env : Env} : ∀ (names : List (Str × NameKind)) (acc : List (Str × Addr)), (∀ y ∈ names, y.2 = NameKind.free -> ∃ c, env.cells.lookup y.1 = some c) ->
  (forIn names acc (λ (x : Str × NameKind) (cs : List (Str × Addr)) => (match x with | (name, kind) => if (kind == NameKind.free) = true then (do let a <- cellOf env name; pure (ForInStep.yield ((name, a) :: cs))) else pure (ForInStep.yield cs) : Sem (ForInStep (List (Str × Addr))))) : Sem (List (Str × Addr))) = pure (q0m env.cells names acc)
 | [], acc, _ => rfl
 | (n, k) :: r, acc, h => by
  have hr : ∀ y ∈ r, y.2 = NameKind.free -> ∃ c, env.cells.lookup y.1 = some c := λ y hy => h y (List.mem_cons_of_mem _ hy)
  rw [List.forIn_cons]
  by_cases hk : (k == NameKind.free) = true
  ·obtain ⟨c, hc⟩ := h (n, k) List.mem_cons_self (beq_iff_eq.mp hk)
   have e1 : cellOf env n = pure c := by unfold cellOf; rw [hc]
   have e2 : q0m env.cells ((n, k) :: r) acc = q0m env.cells r ((n, c) :: acc) := by
    show (if (k == NameKind.free) = true then q0m env.cells r ((n, (env.cells.lookup n).getD 0) :: acc) else q0m env.cells r acc) = _
    rw [if_pos hk, hc]; rfl
   rw [e2, <- q1U r ((n, c) :: acc) hr]
   simp only [hk, if_true, e1]
   rfl
  ·have e2 : q0m env.cells ((n, k) :: r) acc = q0m env.cells r acc := by
    show (if (k == NameKind.free) = true then q0m env.cells r ((n, (env.cells.lookup n).getD 0) :: acc) else q0m env.cells r acc) = _
    rw [if_neg hk]
   rw [e2, <- q1U r acc hr]
   simp only [hk, if_false]
   rfl
theorem q2E {scope : Scope} {env : Env} (h : ∀ y ∈ scope.names, y.2 = NameKind.free -> ∃ c, env.cells.lookup y.1 = some c) : closureFor scope env = pure (q0m env.cells scope.names []) := by
 have q := q1U (env := env) scope.names [] h
 unfold closureFor
 first
  | exact (congrArg (λ t => (t >>= λ cs => pure cs)) q).trans rfl
  | (simp only [q]; rfl)
theorem q2m {cells : List (Str × Addr)} : ∀ {names : List (Str × NameKind)} {acc : List (Str × Addr)} {x : Str} {c : Addr}, (∀ y ∈ names, y.2 = NameKind.free -> ∃ c, cells.lookup y.1 = some c) ->
  (x, c) ∈ q0m cells names acc -> (x, c) ∈ acc \/ (cells.lookup x = some c /\ (x, NameKind.free) ∈ names)
 | [], acc, x, c, _, h => .inl h
 | (n, k) :: r, acc, x, c, hh, h => by
  have hr : ∀ y ∈ r, y.2 = NameKind.free -> ∃ c, cells.lookup y.1 = some c := λ y hy => hh y (List.mem_cons_of_mem _ hy)
  unfold q0m at h
  by_cases hk : (k == NameKind.free) = true
  ·rw [if_pos hk] at h
   obtain ⟨c', hc⟩ := hh (n, k) List.mem_cons_self (beq_iff_eq.mp hk)
   rcases q2m hr h with z | ⟨z1, z2⟩
   ·rcases List.mem_cons.mp z with z | z
    ·cases z
     exact .inr ⟨by rw [hc]; rfl, by rw [<- beq_iff_eq.mp hk]; exact List.mem_cons_self⟩
    ·exact .inl z
   ·exact .inr ⟨z1, List.mem_cons_of_mem _ z2⟩
  ·rw [if_neg hk] at h
   rcases q2m hr h with z | ⟨z1, z2⟩
   ·exact .inl z
   ·exact .inr ⟨z1, List.mem_cons_of_mem _ z2⟩
theorem q2l {cells : List (Str × Addr)} : ∀ {names : List (Str × NameKind)} {acc : List (Str × Addr)} {y : Str × Addr}, y ∈ acc -> y ∈ q0m cells names acc
 | [], _, _, h => h
 | (n, k) :: r, acc, y, h => by
  unfold q0m
  split
  ·exact q2l (List.mem_cons_of_mem _ h)
  ·exact q2l h
theorem q2h {cells : List (Str × Addr)} : ∀ {names : List (Str × NameKind)} {acc : List (Str × Addr)} {x : Str} {c : Addr}, (x, NameKind.free) ∈ names -> cells.lookup x = some c -> (x, c) ∈ q0m cells names acc
 | (n, k) :: r, acc, x, c, h, hc => by
  unfold q0m
  rcases List.mem_cons.mp h with z | z
  ·cases z
   rw [if_pos (show (NameKind.free == NameKind.free) = true from rfl), hc]
   exact q2l List.mem_cons_self
  ·split
   ·exact q2h z hc
   ·exact q2h z hc
theorem q1h : ∀ (names : List (Str × NameKind)) (n : Nat) (acc : List (Str × Addr)), cellsFrom n names acc = cellsFrom n names [] ++ acc
 | [], _, _ => rfl
 | (x, k) :: r, n, acc => by
  unfold cellsFrom
  split
  ·rw [q1h r (n + 1) ((x, n) :: acc), q1h r (n + 1) [(x, n)], List.append_assoc]; rfl
  ·exact q1h r n acc
theorem q2f : ∀ {names : List (Str × NameKind)} {n : Nat} {x : Str} {c : Addr}, (x, c) ∈ cellsFrom n names [] -> (x, NameKind.cell) ∈ names
 | [], _, _, _, h => nomatch h
 | (y, k) :: r, n, x, c, h => by
  unfold cellsFrom at h
  by_cases hk : (k == NameKind.cell) = true
  ·rw [if_pos hk, q1h] at h
   rcases List.mem_append.mp h with z | z
   ·exact List.mem_cons_of_mem _ (q2f z)
   ·have z' : (x, c) = (y, n) := by simpa using z
    cases z'
    rw [beq_iff_eq.mp hk]; exact List.mem_cons_self
  ·rw [if_neg hk] at h
   exact List.mem_cons_of_mem _ (q2f h)
theorem q1Y {α : Type} {x : Str} : ∀ {l r : List (Str × α)}, (l ++ r).lookup x = (l.lookup x).or (r.lookup x)
 | [], r => by simp
 | (y, v) :: l, r => by
  rw [List.cons_append, List.lookup_cons, List.lookup_cons]
  cases hb : x == y with
  | true => rfl
  | false => exact q1Y
theorem q2O {α : Type} {x : Str} : ∀ {l : List (Str × α)}, (∀ c, (x, c) ∉ l) -> l.lookup x = none
 | [], _ => rfl
 | (y, v) :: l, h => by
  rw [List.lookup_cons]
  cases hb : x == y with
  | true => exact absurd (by rw [beq_iff_eq.mp hb]; exact List.mem_cons_self) (h v)
  | false => exact q2O λ c hc => h c (List.mem_cons_of_mem _ hc)
theorem q2Q {α : Type} {x : Str} : ∀ {l : List (Str × α)} {c : α}, (x, c) ∈ l -> ∃ c', l.lookup x = some c'
 | (y, v) :: l, c, h => by
  rw [List.lookup_cons]
  cases hb : x == y with
  | true => exact ⟨v, rfl⟩
  | false =>
   rcases List.mem_cons.mp h with z | z
   ·cases z; rw [beq_self_eq_true] at hb; cases hb
   ·exact q2Q z
theorem q0N {α : Type} {x : Str} : ∀ {l : List (Str × α)} {c : α}, (l.map (·.1)).Nodup -> (x, c) ∈ l -> l.lookup x = some c
 | (y, v) :: l, c, nd, h => by
  rw [List.lookup_cons]
  rw [List.map_cons] at nd
  have nd' := List.nodup_cons.mp nd
  rcases List.mem_cons.mp h with z | z
  ·cases z; rw [beq_self_eq_true]
  ·have : x ≠ y := λ e => nd'.1 (by rw [<- e]; exact List.mem_map.mpr ⟨_, z, rfl⟩)
   rw [beq_eq_false_iff_ne.mpr this]
   exact q0N nd'.2 z
theorem q1T {scope : Scope} {env : Env} {x : Str} : (relabel scope env).names.lookup x = (scope.names.lookup x).map λ k => if (k == NameKind.free && env.scope.kind == .function && env.kindOf x == some .cell) = true then NameKind.cell else k := by
 unfold relabel
 show (scope.names.map _).lookup x = _
 generalize scope.names = l
 induction l with
 | nil => rfl
 | cons y r ih =>
  obtain ⟨n, k⟩ := y
  rw [List.map_cons]
  show List.lookup x ((if (k == NameKind.free && env.scope.kind == .function && env.kindOf n == some .cell) = true then (n, NameKind.cell) else (n, k)) :: _) = _
  have e : (if (k == NameKind.free && env.scope.kind == .function && env.kindOf n == some .cell) = true then (n, NameKind.cell) else (n, k)) = (n, if (k == NameKind.free && env.scope.kind == .function && env.kindOf n == some .cell) = true then NameKind.cell else k) := by split <;> rfl
  rw [e, List.lookup_cons, List.lookup_cons]
  cases hb : x == n with
  | true => rw [beq_iff_eq.mp hb]; rfl
  | false => exact ih
theorem q6S {M : Model} {A : Around} {E : Value -> Shared -> Prop} {s : Shared} {scope : Scope} {g : Addr} {cl : List (Str × Addr)} {q : Str} {env : Env} {Q : Env -> Shared -> Prop}
  (hQ : Q (newEnv scope s.heap.objs.size g (cellsFrom (s.heap.objs.size + 1) scope.names cl) q none .none (some env) builtinsNs) { s with heap := pushCells (s.heap.push { cls := .type "dict", data := .dict #[] }) scope.names }) :
  wpAny M A (newFunctionEnv scope g cl [] q none .none (some env)) Q E s := by
 simp only [newFunctionEnv, Option.isSome_some, if_true]
 refine wpAny_bind (wpAny_alloc ?_)
 refine wpAny_bind (wpAny_layCells _ (λ name kind cells => by cases hkc : kind == NameKind.cell <;> simp [hkc]) _ _ _ _ ?_)
 rw [show ({ s with heap := s.heap.push { cls := .type "dict", data := .dict #[] } } : Shared).heap.objs.size = s.heap.objs.size + 1 from Heap.size_push ..]
 exact wpAny_bind (wpAny_pure (wpAny_pure hQ))
theorem q6q {prog : Program} {w : World} {A : Around} {R : Result -> Shared -> Prop} {s : Shared} {elt target iter : Expr} {ifs : List Expr} {scope : Scope} {pos : Pos} {it acc : Value} {env : Env} (I : Nat -> Shared -> Prop)
  (turn : ∀ n s, I n s -> wpAny (model prog w) A (pyNext it) (λ r sA => match r with
   | none => R (.ok .next) sA
   | some v => wpAny (model prog w) A (letOwnedTupleGo target it v) (λ _ s₁' => wpAny (model prog w) A (assign target env v) (λ _ sB =>
     wpAny (model prog w) A (forIn ifs true λ c r => if r = true then do let ok <- isTrue c env (eval c env); pure (ForInStep.yield ok) else pure (ForInStep.yield r)) (λ ok s₃ =>
      if ok = true then wpAny (model prog w) A (eval elt env) (λ x s₄ =>
       wpAny (model prog w) A (call (.builtin "list.append") [acc, x]) (λ _ s₅ => ∃ m, m < n /\ I m s₅) (notedBy (model prog w) A env λ e s' => R (.error e) s') s₄) (notedBy (model prog w) A env λ e s' => R (.error e) s') s₃
      else ∃ m, m < n /\ I m s₃) (notedBy (model prog w) A env λ e s' => R (.error e) s') sB) (notedBy (model prog w) A env λ e s' => R (.error e) s') s₁') (notedBy (model prog w) A env λ e s' => R (.error e) s') sA) (notedBy (model prog w) A env λ e s' => R (.error e) s') s)
  (n : Nat) (h : I n s) :
  codeAny (model prog w) A (.compLoop (.ListComp elt [⟨target, iter, ifs, 0⟩] scope pos) 0 it acc env) R s := by
 refine codeAny_loop rfl I (λ n s hI => ?_) n h
 show wpAny _ A ((compTurn (.ListComp elt [⟨target, iter, ifs, 0⟩] scope pos) 0 it acc env).onRaise (λ x => do noteFrame x env; theTreesLotGoes x)) _ _ s
 refine wpAny_noted ?_
 rw [compTurn_list]
 refine wpAny_bind (wpAny_standAt (wpAny_bind (wpAny_mono (turn n s hI) (λ r sA h₁ => ?_) λ _ _ h' => h')))
 cases r with
 | none => exact wpAny_pure h₁
 | some v =>
  refine wpAny_bind (wpAny_mono h₁ (λ _ s₁' h₁' => ?_) λ _ _ h' => h')
  refine wpAny_bind (wpAny_mono h₁' (λ _ sB h₂ => wpAny_bind (wpAny_mono h₂ (λ ok s₃ h₃ => ?_) λ _ _ h' => h')) λ _ _ h' => h')
  cases ok with
  | false => exact wpAny_pure ⟨rfl, h₃⟩
  | true =>
   exact wpAny_bind (wpAny_bind (wpAny_mono h₃ (λ x s₄ h₄ => wpAny_bind (wpAny_mono h₄ (λ _ s₅ h₅ => wpAny_pure (wpAny_pure ⟨rfl, h₅⟩)) λ _ _ h' => h')) λ _ _ h' => h'))
theorem HOk.track {P : Program} {w : World} {H : Hp} {h : Heap} {a : Addr} {o : HO} (x : HOk P w H h) (hn : H a = none) (new : q1v P w (upd H a o) h a o) : HOk P w (upd H a o) h := λ b u e => by
 by_cases hb : b = a
 ·subst hb; rw [q0T] at e; cases e; exact new
 ·rw [q0x hb] at e
  exact (x b u e).stay (λ c v _ q => q) (λ c q => by rw [q0x (q0v q hn)]; exact q) λ c xs q => by rw [q0x (q0v q hn)]; exact q
theorem Un.track {fs ex : List Addr} {H H' : Hp} {h h' : Heap} {a : Addr} {o : HO} (u : Un fs ex H H' h h') (hn : H' a = none) (hh : h.get? a = none) : Un fs ex H (upd H' a o) h h' where
 keep := u.keep
 slot := u.slot
 free := λ b ob q n hx => by
  have : b ≠ a := λ z => by rw [z, hh] at q; cases q
  rw [q0x this]; exact u.free b ob q n hx
 there := u.there
 tups := λ b xs q => by have z := u.tups b xs q; rw [q0x (q0v z hn)]; exact z
 frzs := λ b ob xs q => by have z := u.frzs b ob xs q; rw [q0x (q0v z hn)]; exact z
 tbls := λ b ps q => by
  obtain ⟨m, z⟩ := u.tbls b ps q
  exact ⟨m, by rw [q0x (q0v z hn)]; exact z⟩
structure CompScope (N N' : List Str) (sc osc : Scope) (fr : List (Option Nat)) : Prop where
 kind : sc.kind = .function
 nd : N'.Nodup
 snd : (sc.names.map (·.1)).Nodup
 len : fr.length = N'.length
 fre : ∀ (j i : Nat), fr[j]? = some (some i) -> ∃ x, N'[j]? = some x /\ N[i]? = some x /\ (x, NameKind.free) ∈ sc.names
 out : ∀ y ∈ sc.names, y.2 = NameKind.free -> osc.names.lookup y.1 = some .cell \/ osc.names.lookup y.1 = some .free
noncomputable def inner (fr : List (Option Nat)) (σ : St) : St := fr.map λ o => o.bind λ i => (σ[i]?).join
noncomputable def q0w (X : Cx) (scope : Scope) (N' : List Str) (C : Addr) (cells : List (Str × Addr)) (sB : Shared) (HB : Hp) (fp : List Addr) : Cx :=
 { X with N := N', s₀ := sB, H₀ := HB, env := compEnvC scope cells C X.env, outer := X.stack, stack := X.stack, ex := fp, fn := λ x => scope.names.lookup x == some .cell, pn := [], xe := λ _ _ => False }
section
variable {X : Cx} {pins : List (Addr × Obj)} {σ : St} {H : Hp} {sB : Shared} {N' : List Str} {scope : Scope} {fr : List (Option Nat)} {fp : List Addr}
noncomputable abbrev q1Z : Obj := { cls := .type "list", dict := none, data := .seq ([] : List Value).toArray }
noncomputable abbrev q5R : Obj := { cls := .type "dict", data := .dict #[] }
theorem z1i (S : CompScope X.N N' scope X.env.scope fr) (I : Inv X pins σ H sB) (f : ∀ b ∈ fp, FpOk X pins H b) (ho : ∀ b ∈ fp, @LT.lt Nat _ b sB.heap.objs.size) {C : Nat} (hC : C = sB.heap.objs.size + 1) {h4 : Heap} (h4e : h4 = pushCells ((sB.heap.push q1Z).push q5R) scope.names) :
  Inv (q0w X scope N' C (cellsFrom (C + 1) scope.names (q0m X.env.cells scope.names [])) sB H fp) [] (inner fr σ) H { sB with heap := h4 } /\ h4.get? sB.heap.objs.size = some q1Z /\ (∀ b o, sB.heap.get? b = some o -> h4.get? b = some o) := by
 have hsz1 : (sB.heap.push q1Z).objs.size = sB.heap.objs.size + 1 := Heap.size_push ..
 have hsz2 : ((sB.heap.push q1Z).push q5R).objs.size = C + 1 := by rw [Heap.size_push, hsz1, hC]
 have keep : ∀ b o, sB.heap.get? b = some o -> h4.get? b = some o := λ b o e => by rw [h4e]; exact pushCells_keeps _ _ b o (Heap.get?_push_of_some _ (Heap.get?_push_of_some _ e))
 have hD : h4.get? sB.heap.objs.size = some q1Z := by rw [h4e]; exact pushCells_keeps _ _ _ _ (Heap.get?_push_of_some _ (Heap.get?_push_size _ rfl))
 have hns : h4.Ns C λ _ => none := by
  have q := (Heap.Ns.new (sB.heap.push q1Z) (.type "dict")).keeps (pushCells_keeps scope.names _)
  rw [hsz1, <- hC] at q
  rw [h4e]; exact q
 have ok := cellsFrom_ok scope.names ((sB.heap.push q1Z).push q5R) (C + 1) [] ⟨λ _ _ hm => (nomatch hm), List.Pairwise.nil⟩ (by rw [hsz2]; exact Nat.le_refl _)
 rw [hsz2, <- h4e] at ok
 have hfree : ∀ y ∈ scope.names, y.2 = NameKind.free -> ∃ c, X.env.cells.lookup y.1 = some c := λ y hy hk => I.ok.has y.1 (S.out y hy hk)
 generalize hcl : q0m X.env.cells scope.names [] = cl
 have memcl : ∀ {x : Str} {c : Addr}, (x, c) ∈ cl -> X.env.cells.lookup x = some c /\ (x, NameKind.free) ∈ scope.names := λ {x c} hm => by
  rw [<- hcl] at hm
  rcases q2m hfree hm with z | z
  ·exact nomatch z
  ·exact z
 generalize hown : cellsFrom (C + 1) scope.names [] = own at ok
 have app : cellsFrom (C + 1) scope.names cl = own ++ cl := by rw [q1h, hown]
 rw [app]
 have memown : ∀ {x : Str} {c : Addr}, (x, c) ∈ own -> (x, NameKind.cell) ∈ scope.names := λ {x c} hm => by rw [<- hown] at hm; exact q2f hm
 have L1 : ∀ x c, (own ++ cl).lookup x = some c -> ((x, c) ∈ own) \/ (X.env.cells.lookup x = some c /\ (x, NameKind.free) ∈ scope.names /\ own.lookup x = none) := λ x c e => by
  rw [q1Y] at e
  cases q : own.lookup x with
  | some c' => rw [q] at e; cases e; exact .inl (PySem.mem_of_lookup q)
  | none => rw [q] at e; have z := memcl (PySem.mem_of_lookup (show cl.lookup x = some c from e)); exact .inr ⟨z.1, z.2, rfl⟩
 have own_ge : ∀ {x : Str} {c : Nat}, (x, c) ∈ own -> @LE.le Nat _ (C + 1) c := λ {x c} hm => (ok.empty x c hm).2
 have cell_lt : ∀ {x : Str} {c : Nat}, X.env.cells.lookup x = some c -> @LT.lt Nat _ c sB.heap.objs.size := λ {x c} e => by
  obtain ⟨v, z⟩ := I.cell x c e
  exact z.lt
 have free_no : ∀ {x : Str}, (x, NameKind.free) ∈ scope.names -> own.lookup x = none := λ {x} hm => by
  refine q2O λ c hc => ?_
  have a := q0N S.snd hm
  have b := q0N S.snd (memown hc)
  rw [a] at b; cases b
 have cl_get : ∀ {x : Str} {c : Addr}, (x, NameKind.free) ∈ scope.names -> X.env.cells.lookup x = some c -> (own ++ cl).lookup x = some c := λ {x c} hm hc => by
  rw [q1Y, free_no hm]
  obtain ⟨c', e⟩ := q2Q (l := cl) (by rw [<- hcl]; exact q2h hm hc)
  have z := (memcl (PySem.mem_of_lookup e)).1
  rw [hc] at z; cases z
  exact e
 have hX : (q0w X scope N' C (own ++ cl) sB H fp).Ok := by
  refine ⟨I.ok.mod, S.kind, I.ok.glob, I.ok.blt, ?_, λ x y c h1 h2 => ?_, λ x hx => ?_, λ x c hf hc => ?_, I.ok.hd, I.ok.frames, .inl rfl, λ b hb => ⟨?_, λ x c e => ?_⟩, I.bs, Nat.le_trans I.ok.bsz I.sz, λ b o e hb => ?_, λ b hb hs => ?_, I.stack, I.stkFree⟩
  ·show sB.heap.objs.size <= C
   rw [hC]; exact Nat.le_succ _
  ·have h1 : (own ++ cl).lookup x = some c := h1
   have h2 : (own ++ cl).lookup y = some c := h2
   rcases L1 x c h1 with a | ⟨a, _⟩ <;> rcases L1 y c h2 with b | ⟨b, _⟩
   ·exact name_of_addr ok.apart a b
   ·exfalso; have q1 := own_ge a; have q2 := cell_lt b; omega
   ·exfalso; have q1 := own_ge b; have q2 := cell_lt a; omega
   ·exact I.ok.inj x y c a b
  ·have hx' : (relabel scope X.env).names.lookup x = some .cell \/ (relabel scope X.env).names.lookup x = some .free := hx
   show ∃ c, (own ++ cl).lookup x = some c
   rw [q1T] at hx'
   cases q : scope.names.lookup x with
   | none => rw [q] at hx'; rcases hx' with z | z <;> cases z
   | some k =>
    have km := PySem.mem_of_lookup q
    by_cases k1 : k = .cell
    ·subst k1
     have z := PySem.W.cellsFrom_some scope.names (C + 1) [] (.inl q)
     rw [hown] at z
     obtain ⟨c, z⟩ := Option.isSome_iff_exists.mp z
     exact ⟨c, by rw [q1Y, z]; rfl⟩
    ·by_cases k2 : k = .free
     ·subst k2
      obtain ⟨c, e⟩ := hfree _ km rfl
      exact ⟨c, cl_get km e⟩
     ·exfalso
      rw [q] at hx'
      have e0 : (k == NameKind.free) = false := beq_eq_false_iff_ne.mpr k2
      simp only [Option.map_some, e0, Bool.false_and] at hx'
      rcases hx' with z | z
      ·exact k1 (by simpa using z)
      ·exact k2 (by simpa using z)
  ·have hf' : (scope.names.lookup x == some .cell) = true := hf
   have q : scope.names.lookup x = some .cell := by simpa using hf'
   have z := PySem.W.cellsFrom_some scope.names (C + 1) [] (.inl q)
   rw [hown] at z
   obtain ⟨c', z⟩ := Option.isSome_iff_exists.mp z
   have hc' : (own ++ cl).lookup x = some c := hc
   rw [q1Y, z] at hc'
   have e : c' = c := Option.some.inj hc'
   subst e
   have := own_ge (PySem.mem_of_lookup z)
   show @LE.le Nat _ sB.heap.objs.size c'
   omega
  ·have := ho b hb
   show @Ne Nat b C
   omega
  ·rcases L1 x c e with a | ⟨a, _⟩
   ·have := own_ge a; have := ho b hb; show @Ne Nat c b; omega
   ·exact (f b hb).2.2.2.2.1 x c a
  ·rcases (f b hb).2.2.2.1 with z | z
   ·exact I.ok.noex b o e z
   ·exact absurd (Nat.lt_of_lt_of_le (Heap.lt_size e) (Nat.le_trans I.ok.bsz z)) (Nat.lt_irrefl _)
  ·rcases List.mem_cons.mp (I.stkSub b hs) with z | z
   ·exact (f b hb).2.1 z
   ·exact (f b hb).2.2.1 z
 refine ⟨⟨hX, rfl, I.bare, Un.kept keep, ⟨_, hns, λ i x v e1 e2 e3 => ?_⟩, λ x c e => ?_, I.hok.fresh (by show @LE.le Nat _ sB.heap.objs.size C; omega), λ x c e => ?_, λ p hp => absurd (show p ∈ ([] : List (Addr × Obj)) from hp) (by simp), I.hok.kept keep, ?_⟩, hD, keep⟩
 ·have e1 : N'[i]? = some x := e1
  unfold inner at e2
  rw [List.getElem?_map] at e2
  cases q : fr[i]? with
  | none => rw [q] at e2; cases e2
  | some o =>
   rw [q] at e2
   cases o with
   | none => cases e2
   | some j =>
    have e2' : (σ[j]?).join = some v := Option.some.inj e2
    have hv : σ[j]? = some (some v) := by
     cases z : σ[j]? with
     | none => rw [z] at e2'; cases e2'
     | some o => rw [z] at e2'; rw [show o = some v from e2']
    obtain ⟨x', a1, a2, a3⟩ := S.fre i j q
    rw [e1] at a1; cases a1
    obtain ⟨m, hn, hl⟩ := I.loc
    have ko := S.out _ a3 rfl
    obtain ⟨u, r, l⟩ := hl j x v a2 hv (ko.elim (λ z => .inr (.inl z)) λ z => .inr (.inr z))
    rcases l with ⟨k, _⟩ | ⟨k, c, e, z⟩
    ·have k' : X.env.scope.names.lookup x = some .local := k
     rcases ko with w | w <;> (rw [show X.env.scope.names.lookup x = _ from w] at k'; cases k')
    ·refine ⟨u, r, .inr ⟨?_, c, cl_get a3 e, z.keeps keep⟩⟩
     show (relabel scope X.env).names.lookup x = some .cell \/ (relabel scope X.env).names.lookup x = some .free
     rw [q1T, q0N S.snd a3]
     simp only [Option.map_some]
     split
     ·exact .inl rfl
     ·exact .inr rfl
 ·rcases L1 x c e with a | ⟨a, _⟩
  ·exact ⟨none, (ok.empty x c a).1⟩
  ·obtain ⟨v, z⟩ := I.cell x c a
   exact ⟨v, z.keeps keep⟩
 ·rcases L1 x c e with a | ⟨a, _⟩
  ·exact I.hok.fresh (by have := own_ge a; show @LE.le Nat _ sB.heap.objs.size c; omega)
  ·exact I.freeC x c a
 ·show (inner fr σ).length = N'.length
  unfold inner
  rw [List.length_map, S.len]
end
noncomputable def PTs (X : Cx) (ifs : List Expr) (t : TT) : Prop :=
 ∀ (pins : List (Addr × Obj)) (s : Shared) (σ : St) (H : Hp) (Q : Bool -> Hp -> Prop), Inv X pins σ H s -> t σ H Q ->
  wpAny (model X.prog X.w) X.A (forIn ifs true λ c r => if r = true then do let ok <- isTrue c X.env (eval c X.env); pure (ForInStep.yield ok) else pure (ForInStep.yield r)) (TP X pins σ Q) X.xe s
noncomputable def tYes : TT := λ _ H Q => Q true H
theorem z2X {X : Cx} : PTs X [] tYes := λ _ _ _ H _ I h => wpAny_tests_nil ⟨H, I, h⟩
theorem z3L {X : Cx} {c : Expr} {t : TT} (h : PT X c t) : PTs X [c] t := λ pins s σ H Q I hq => wpAny_tests_one (h pins s σ H Q I hq)
noncomputable def z2Y (J : It) (g : TG) (tc : TT) (te : TE) (Fin : List V -> Hp -> Prop) (σ : St) (H : Hp) : Prop :=
 ∃ W : Nat -> Nat -> List V -> St -> Hp -> Prop, (∃ m, W 0 m [] σ H) /\ ∀ i m ys σ H, W i m ys σ H ->
  (J.stop i H /\ Fin ys H) \/ (J.go i H /\ ys.length < sizeLine /\ ∀ x H', J.yld i H x H' -> g x σ H' λ σ2 H2 => tc σ2 H2 λ b H3 =>
   if b = true then te σ2 H3 λ y H4 => ∃ m', m' < m /\ W (i + 1) m' (ys ++ [y]) σ2 H4 else ∃ m', m' < m /\ W (i + 1) m' ys σ2 H3)
theorem Vals.snoc {xs : List V} {us : List Value} {x : V} {u : Value} (r : Vals xs us) (q : RelV x u) : Vals (xs ++ [x]) (us ++ [u]) := r.append (.cons q .nil)
theorem q7J {X : Cx} {pins : List (Addr × Obj)} {σ : St} {H : Hp} {sB : Shared} {N' : List Str} {scope : Scope} {fr : List (Option Nat)} {fp : List Addr} {iter elt tg : Expr} {ifs : List Expr} {pos : Pos} {g : TG} {te : TE} {tc : TT} {it : Addr} {tn : Nat -> Heap -> Prop} {J : It}
  {E : Value -> Shared -> Prop} {Fin : List V -> Hp -> Prop} {RR : Value -> Addr -> Result -> Shared -> Prop}
  (S : CompScope X.N N' scope X.env.scope fr) (hc : X.calm = true)
  (hg : ∀ C cells sB HB fp, PG (q0w X scope N' C cells sB HB fp) tg g) (ht : ∀ C cells sB HB fp, PTs (q0w X scope N' C cells sB HB fp) ifs tc) (he : ∀ C cells sB HB fp, PE (q0w X scope N' C cells sB HB fp) elt te)
  (I : Inv X pins σ H sB) (T : Turn X.prog X.w X.K tg J fp it tn) (st : tn 0 sB.heap) (f : ∀ b ∈ fp, FpOk X pins H b) (h : z2Y J g tc te Fin (inner fr σ) H)
  (hRR : ∀ D C H' s' m ys, Inv X pins σ (upd H' D (.lst ys)) s' -> H' D = none -> s'.heap.Ns C m -> upd H' D (.lst ys) C = none -> C ≠ X.env.locals -> X.s₀.heap.objs.size <= C -> (∀ x c, X.env.cells.lookup x = some c -> c ≠ C) -> (∀ p ∈ X.pn ++ pins, p.1 ≠ C) -> Fin ys H' -> RR (.ref D) C (.ok .next) s') :
  wpAny (model X.prog X.w) X.A (newList []) (λ acc s₃ => wpAny (model X.prog X.w) X.A (newFunctionEnv scope X.env.globals (q0m X.env.cells scope.names []) [] X.env.qual none .none (some X.env)) (λ cenv s₄ =>
   codeAny (model X.prog X.w) X.A (.compStart (.ListComp elt [⟨tg, iter, ifs, 0⟩] scope pos) 0 (.ref it) acc { cenv with scope := relabel scope X.env }) (RR acc cenv.locals) s₄) E s₃) E sB := by
 have ho : ∀ b ∈ fp, b < sB.heap.objs.size := λ b hb => by
  obtain ⟨o, e, _⟩ := T.obj _ _ st b hb
  exact Heap.lt_size e
 refine wpAny_newObj_type (q6S ?_)
 have hsz1 : (sB.heap.push q1Z).objs.size = sB.heap.objs.size + 1 := Heap.size_push ..
 obtain ⟨I4, hD4, keep⟩ := z1i (C := sB.heap.objs.size + 1) S I f ho rfl rfl
 show codeAny _ _ (.compStart _ 0 (.ref it) (.ref sB.heap.objs.size) (compEnvC scope (cellsFrom ((sB.heap.push q1Z).objs.size + 1) scope.names (q0m X.env.cells scope.names [])) (sB.heap.push q1Z).objs.size X.env)) (RR (.ref sB.heap.objs.size) (sB.heap.push q1Z).objs.size) { sB with heap := pushCells ((sB.heap.push q1Z).push q5R) scope.names }
 rw [hsz1]
 generalize hDe : sB.heap.objs.size = D at *
 generalize cellsFrom (D + 1 + 1) scope.names (q0m X.env.cells scope.names []) = cells at *
 generalize pushCells ((sB.heap.push q1Z).push q5R) scope.names = h4 at *
 have hfp : ∀ {pins' : List (Addr × Obj)} {H' : Hp}, (∀ b ∈ fp, H' b = none) -> (∀ p ∈ pins', p.1 = D) -> ∀ b ∈ fp, FpOk (q0w X scope N' (D + 1) cells sB H fp) pins' H' b := λ {pins' H'} hn hp b hb =>
  ⟨hn b hb, (I4.ok.exf b hb).1, I4.ok.exfs b hb, .inl hb, (I4.ok.exf b hb).2, λ p hp' z => by
   have hp' : p ∈ ([] : List (Addr × Obj)) ++ pins' := hp'
   rw [List.nil_append] at hp'
   have := ho b hb
   rw [<- z, hp p hp'] at this
   exact Nat.lt_irrefl _ this⟩
 obtain ⟨W, ⟨m0, w0⟩, turn⟩ := h
 have hDC : D ≠ (q0w X scope N' (D + 1) cells sB H fp).env.locals := by show D ≠ D + 1; omega
 have hDcell : ∀ x c, (q0w X scope N' (D + 1) cells sB H fp).env.cells.lookup x = some c -> c ≠ D := λ x c e z => by
  obtain ⟨v, o, hoc, hd⟩ := I4.cell x c e
  have q : h4.get? D = some o := by rw [<- z]; exact hoc
  rw [hD4] at q; cases q; cases hd
 have hDfs : D ∉ (q0w X scope N' (D + 1) cells sB H fp).fs := λ z => by
  obtain ⟨_, o, ho', _⟩ := I4.ok.funs.mem z
  have := Heap.lt_size ho'
  have e : sB.heap.objs.size = D := hDe
  exact absurd this (by show ¬ D < sB.heap.objs.size; omega)
 have loop : codeAny (model X.prog X.w) X.A (.compLoop (.ListComp elt [⟨tg, iter, ifs, 0⟩] scope pos) 0 (.ref it) (.ref D) (compEnvC scope cells (D + 1) X.env)) (RR (.ref D) (D + 1)) { sB with heap := h4 } := by
  refine q6q (λ n s' => ∃ i ys its k σ' H', Inv (q0w X scope N' (D + 1) cells sB H fp) [] σ' H' s' /\ tn i s'.heap /\ (∀ b ∈ fp, H' b = none) /\ H' D = none /\
   s'.heap.get? D = some { cls := .type "list", data := .seq (its : List Value).toArray k } /\ Vals ys its /\ ys.length <= sizeLine /\ W i n ys σ' H') ?_ m0
   ⟨0, [], [], _, _, H, I4, T.keep _ _ _ st λ b _ o e => keep b o e, λ b hb => (f b hb).1, I.hok.fresh (by omega), hD4, .nil, Nat.zero_le _, w0⟩
  rintro n s3 ⟨i, ys, its, k, σ3, H3, I3, st3, fr3, hD3, oD3, rv, hl, w3⟩
  have I3p : Inv (q0w X scope N' (D + 1) cells sB H fp) [(D, { cls := .type "list", data := .seq its.toArray k })] σ3 H3 s3 := I3.pins_of λ p hp => by
   have e : p = (D, { cls := .type "list", data := .seq its.toArray k }) := by simpa using hp
   subst e
   exact ⟨oD3, hD3, hDC, hDfs, λ v z => by cases z⟩
  have pinD : ∀ p ∈ [((D : Addr), ({ cls := .type "list", data := .seq its.toArray k } : Obj))], p.1 = D := λ p hp => by
   have e : p = (D, { cls := .type "list", data := .seq its.toArray k }) := by simpa using hp
   subst e; rfl
  rcases turn i n ys σ3 H3 w3 with ⟨stop, fin⟩ | ⟨go, hlt, step⟩
  ·refine thn (T.done (q0w X scope N' (D + 1) cells sB H fp) rfl rfl rfl hc i _ s3 σ3 H3 _ I3p (hfp fr3 pinD) st3 stop) λ r s4 ⟨hr, I4'⟩ => ?_
   subst hr
   have oD := (I4'.pin (D, _) (List.mem_append_right _ List.mem_cons_self)).1
   have un : Un (frs X.stack) fp H H3 sB.heap s4.heap := I4'.base
   have hn : sB.heap.get? D = none := Heap.get?_none_of_le (by rw [hDe]; exact Nat.le_refl _)
   obtain ⟨mC, hnC, _⟩ := I4'.loc
   refine hRR D (D + 1) H3 s4 mC ys (I.call' I4'.os (un.track hD3 hn) (I4'.hok.track hD3 ⟨hl, its, k, rv, oD⟩) I4'.bare λ b hb => ?_) hD3 hnC ?_ ?_ ?_ (λ x c e => ?_) (λ p hp => ?_) fin
   ·obtain ⟨_, f1, f2, f3, f4, f5⟩ := f b hb
    exact ⟨f3, f1, f4, f5⟩
   ·rw [q0x (show @Ne Nat (D + 1) D by omega)]; exact I4'.free
   ·have q : @LT.lt Nat _ X.env.locals sB.heap.objs.size := I.lt
    show @Ne Nat (D + 1) X.env.locals
    omega
   ·have q : @LE.le Nat _ X.s₀.heap.objs.size sB.heap.objs.size := I.sz
    show @LE.le Nat _ X.s₀.heap.objs.size (D + 1)
    omega
   ·obtain ⟨v, z⟩ := I.cell x c e
    have q : @LT.lt Nat _ c sB.heap.objs.size := z.lt
    show @Ne Nat c (D + 1)
    omega
   ·have q : @LT.lt Nat _ p.1 sB.heap.objs.size := Heap.lt_size (I.pin p hp).1
    show @Ne Nat p.1 (D + 1)
    omega
  ·refine thn (T.item (q0w X scope N' (D + 1) cells sB H fp) rfl rfl rfl hc i _ s3 σ3 H3 _ I3p (hfp fr3 pinD) st3 go) λ r s4 ⟨u, hr, h4'⟩ => ?_
   subst hr
   refine thn h4' λ _ s5 ⟨x, H5, I5, r5, y5, st5, fr5⟩ => ?_
   have I5' := I5.pinned (hfp fr5 pinD) (T.obj _ _ st5)
   refine wpAny_mono (hg (D + 1) cells sB H fp _ s5 σ3 H5 x u _ I5' r5 (step x H5 y5)) (λ _ s6 ⟨σ6, H6, I6, q6⟩ => ?_) λ _ _ z => z.elim
   refine wpAny_mono (ht (D + 1) cells sB H fp _ s6 σ6 H6 _ I6 q6) (λ b s7 ⟨H7, I7, q7⟩ => ?_) λ _ _ z => z.elim
   have fpK : ∀ {H' : Hp} {s' : Shared}, Inv (q0w X scope N' (D + 1) cells sB H fp) ([(D, { cls := .type "list", data := .seq its.toArray k })] ++ q5S fp s5.heap) σ6 H' s' -> tn (i + 1) s'.heap /\ (∀ b ∈ fp, H' b = none) /\ s'.heap.get? D = some { cls := .type "list", data := .seq its.toArray k } /\ H' D = none := λ {H' s'} J' => by
    refine ⟨T.keep _ _ _ st5 λ b hb o e => (J'.pin (b, o) (List.mem_append_right _ (List.mem_append_right _ (q2G hb e)))).1, λ b hb => ?_, ?_, ?_⟩
    ·obtain ⟨o, e, d⟩ := T.obj _ _ st5 b hb
     exact (J'.pin (b, o) (List.mem_append_right _ (List.mem_append_right _ (q2G hb e)))).2.1
    ·exact (J'.pin (D, _) (List.mem_append_right _ (List.mem_append_left _ List.mem_cons_self))).1
    ·exact (J'.pin (D, _) (List.mem_append_right _ (List.mem_append_left _ List.mem_cons_self))).2.1
   cases b with
   | false =>
    rw [if_neg Bool.false_ne_true] at q7 ⊢
    obtain ⟨m', hm, w7⟩ := q7
    obtain ⟨k1, k2, k3, k4⟩ := fpK I7
    exact ⟨m', hm, i + 1, ys, its, k, σ6, H7, I7.pins_of (λ p hp => (nomatch hp)), k1, k2, k4, k3, rv, hl, w7⟩
   | true =>
    rw [if_pos rfl] at q7 ⊢
    refine wpAny_mono (he (D + 1) cells sB H fp _ s7 σ6 H7 _ I7 q7) (λ y s8 ⟨v8, H8, I8, r8, q8⟩ => ?_) λ _ _ z => z.elim
    obtain ⟨m', hm, w8⟩ := q8
    obtain ⟨k1, k2, k3, k4⟩ := fpK I8
    have hits : its.length <= sizeLine := by rw [<- rv.length]; exact hl
    refine append_at k3 (λ h9 hs9 hD9 => ?_) (by rw [List.size_toArray]; exact hits)
    have I9 : Inv (q0w X scope N' (D + 1) cells sB H fp) [] σ6 H8 s8 := I8.pins_of λ p hp => (nomatch hp)
    refine ⟨m', hm, i + 1, ys ++ [v8], its ++ [y], k + 1, σ6, H8, I9.turned (it := D) (t' := s8.toks) (λ b o hb e => (hs9.2 b hb).trans e) k4 hDC (.inr (by show sB.heap.objs.size <= D; omega)) hDcell (λ p hp => (nomatch hp)), ?_, k2, k4, ?_, rv.snoc r8, ?_, w8⟩
    ·exact T.keep _ _ _ k1 λ b hb o e => (hs9.2 b (by have q : @LT.lt Nat _ b D := ho b hb; show @Ne Nat b D; omega)).trans e
    ·rw [hD9, List.push_toArray]
    ·rw [List.length_append, List.length_singleton]; omega
 exact codeAny_compStart_list loop (T.self X.A 0 _ _ _ (T.keep _ _ _ st λ b _ o e => keep b o e) loop)
noncomputable def z3B (fr : List (Option Nat)) (wi : TI) (g : TG) (tc : TT) (te : TE) : TE := λ σ H Q => wi σ H λ J H1 => z2Y J g tc te (λ ys H' => ∀ p, H' p = none -> Q (.ref p) (upd H' p (.lst ys))) (inner fr σ) H1
theorem z4c {X : Cx} {N' : List Str} {scope : Scope} {fr : List (Option Nat)} {iter elt tg : Expr} {ifs : List Expr} {pos : Pos} {wi : TI} {g : TG} {te : TE} {tc : TT} (S : CompScope X.N N' scope X.env.scope fr) (hc : X.calm = true) (hi : PI X tg iter wi)
  (hg : ∀ C cells sB HB fp, PG (q0w X scope N' C cells sB HB fp) tg g) (ht : ∀ C cells sB HB fp, PTs (q0w X scope N' C cells sB HB fp) ifs tc) (he : ∀ C cells sB HB fp, PE (q0w X scope N' C cells sB HB fp) elt te)
  (hs : ∀ x, foldedSetIterable iter X.env x = pure x := by intro _; rfl) : PE X (.ListComp elt [⟨tg, iter, ifs, 0⟩] scope pos) (z3B fr wi g tc te) := by
 intro pins s σ H Q I h
 rw [eval_ListComp]
 have hfree : ∀ y ∈ scope.names, y.2 = NameKind.free -> ∃ c, X.env.cells.lookup y.1 = some c := λ y hy hk => I.ok.has y.1 (S.out y hy hk)
 refine wpAny_comprehension_free (use := none) rfl hs (q2E hfree) S.kind (λ x hx hl => q0N S.snd (by rw [<- hl]; exact hx)) (thn (hi pins s σ H _ I h) λ v s1 h1 => thn h1 λ itv s2 h2 => ?_)
 obtain ⟨it, fp, tn, J, H2, e, I2, T, st2, f2, w⟩ := h2
 subst e
 refine q7J (RR := λ acc C => compPost (model X.prog X.w) X.A X.xe none (EP X pins σ Q) acc C) S hc hg ht he I2 T st2 f2 w ?_
 intro D C H' s' m ys I' hD hnC hCn hCL hCs hCc hCp fin
 exact ⟨m, hnC, λ h' hs' => ⟨.ref D, _, I'.turned (it := C) (t' := s'.toks) (λ b o hb e => (hs'.2 b hb).trans e) hCn hCL (.inr hCs) hCc hCp, rfl, fin D hD⟩⟩
theorem q8F {X : Cx} {N' : List Str} {scope : Scope} {fr : List (Option Nat)} {iter elt tg : Expr} {ifs : List Expr} {pos spos py : Pos} {y : Str} {i : Nat} {wi : TI} {g : TG} {te : TE} {tc : TT} (S : CompScope X.N N' scope X.env.scope fr) (hc : X.calm = true) (hN : X.N.Nodup) (hiN : X.N[i]? = some y)
  (hy : X.env.scope.names.lookup y = some .local) (hi : PI X tg iter wi)
  (hg : ∀ C cells sB HB fp, PG (q0w X scope N' C cells sB HB fp) tg g) (ht : ∀ C cells sB HB fp, PTs (q0w X scope N' C cells sB HB fp) ifs tc) (he : ∀ C cells sB HB fp, PE (q0w X scope N' C cells sB HB fp) elt te)
  (hsw : swapsWith (.ListComp elt [⟨tg, iter, ifs, 0⟩] scope pos) (some (.Name y py)) spos.line X.env = pure true := by rfl)
  (hs : ∀ x, foldedSetIterable iter X.env x = pure x := by intro _; rfl) : PS X (.Assign [.Name y py] (.ListComp elt [⟨tg, iter, ifs, 0⟩] scope pos) spos) (tAsg (z3B fr wi g tc te) (q8E i)) := by
 intro pins s σ H Dn I h
 rw [exec_Assign_Name_used _ _ _ _ hsw]
 refine wpAny_bind (wpAny_standAt (wpAny_bind ?_))
 show wpAny _ _ (do let _ <- comprehension (.ListComp elt [⟨tg, iter, ifs, 0⟩] scope pos) scope X.env _ (newList []) false (eval iter X.env) (some (assign (.Name y py) X.env))) _ _ s
 have hfree : ∀ y ∈ scope.names, y.2 = NameKind.free -> ∃ c, X.env.cells.lookup y.1 = some c := λ y hy hk => I.ok.has y.1 (S.out y hy hk)
 refine wpAny_bind (wpAny_mono (wpAny_comprehension_free (use := some (assign (.Name y py) X.env)) (Q := λ _ s' => SP X pins Dn .next s') rfl hs (q2E hfree) S.kind (λ x hx hl => q0N S.snd (by rw [<- hl]; exact hx))
  (thn (hi pins s σ H _ I h) λ v s1 h1 => thn h1 λ itv s2 h2 => ?_)) (λ _ s' hq => wpAny_pure (wpAny_pure hq)) λ _ _ e => e)
 obtain ⟨it, fp, tn, J, H2, e, I2, T, st2, f2, w⟩ := h2
 subst e
 refine q7J (RR := λ acc C => compPost (model X.prog X.w) X.A X.xe (some (assign (.Name y py) X.env)) (λ _ s' => SP X pins Dn .next s') acc C) S hc hg ht he I2 T st2 f2 w ?_
 intro D C H' s' m ys I' hD hnC hCn hCL hCs hCc hCp fin
 refine wpAny_assign_Name (q5Z (v := .ref D) I' hN hiN (Or.inl hy) rfl (λ s'' I'' ⟨a, hsb, ha⟩ => ⟨m, hnC.sameBut hsb ?_, λ h' hs' => ⟨_, _, I''.turned (it := C) (t' := s''.toks) (λ b o hb e => (hs'.2 b hb).trans e) hCn hCL (.inr hCs) hCc hCp, fin D hD⟩⟩) (.inr hy))
 rcases ha with z | z
 ·rw [z]; exact hCL
 ·exact Ne.symm (hCc y a z)
end L2
end
section
namespace L2
open PySem PySem.Spec PyProof.Rows
theorem q1v.there {P : Program} {w : World} {H : Hp} {h : Heap} {a : Addr} {o : HO} (x : q1v P w H h a o) : ∃ ob, h.get? a = some ob := by
 cases o with
 | lst xs => obtain ⟨_, _, _, _, e⟩ := x; exact ⟨_, e⟩
 | tup xs => obtain ⟨_, _, _, ob, e, _⟩ := x; exact ⟨_, e⟩
 | dK kvs => obtain ⟨_, _, _, _, o, _, _, e, _⟩ := x; exact ⟨_, e⟩
 | dT kvs => obtain ⟨_, _, _, _, o, _, _, e, _⟩ := x; exact ⟨_, e⟩
 | set S n => obtain ⟨o, _, _, _, e, _⟩ := x; exact ⟨_, e⟩
 | ins C dx fs => obtain ⟨_, _, _, e, _⟩ := x; exact ⟨_, e⟩
 | own y => obtain ⟨_, e⟩ := x; exact ⟨_, e⟩
 | xd fs => obtain ⟨_, ⟨_, _, _, e, _⟩, _⟩ := x; exact ⟨_, e⟩
 | rng lo hi => obtain ⟨_, _, _, e⟩ := x; exact ⟨_, e⟩
 | frz ob u => obtain ⟨e, _⟩ := x; exact ⟨_, e⟩
 | tbl ps => exact ⟨_, (show h.get? a = some _ from x)⟩
 | met f y => exact ⟨_, (show h.get? a = some _ from x)⟩
 | ext φ => obtain ⟨_, ⟨_, e⟩, _⟩ := x; exact ⟨_, e⟩
structure Fly (P : Program) (w : World) (base : Heap) (l : List Env) (ea : Addr) (C : Value) (H : Hp) (B h : Heap) : Prop where
 fly : ∃ a0, Heap.FlyingW B l ea C a0 h
 bas : ∀ b o, base.get? b = some o -> B.get? b = some o
 hok : HOk P w H B
theorem Fly.stays {P : Program} {w : World} {base : Heap} {l : List Env} {ea : Addr} {C : Value} {H : Hp} {B h : Heap} (F : Fly P w base l ea C H B h) : ∀ b o, B.get? b = some o -> h.get? b = some o := by
 obtain ⟨a0, f⟩ := F.fly
 exact f.1
theorem Fly.newE {P : Program} {w : World} {base : Heap} {l : List Env} {ea : Addr} {C : Value} {H : Hp} {B h : Heap} (F : Fly P w base l ea C H B h) : B.get? ea = none := by
 obtain ⟨a0, f⟩ := F.fly
 exact f.2.1
theorem Fly.untr {P : Program} {w : World} {base : Heap} {l : List Env} {ea : Addr} {C : Value} {H : Hp} {B h : Heap} (F : Fly P w base l ea C H B h) : H ea = none := by
 cases q : H ea with
 | none => rfl
 | some o =>
  obtain ⟨ob, e⟩ := (F.hok ea o q).there
  rw [F.newE] at e; cases e
noncomputable def CXx (P : Program) (w : World) (base : Heap) : CXT := λ outer H s E e s' => ∃ (ea : Addr) (C : Value) (H' : Hp) (B : Heap), e = .ref ea /\ s'.os = s.os /\ AllBare s'.gens /\ Un (frs outer) [] H H' s.heap s'.heap /\
 Fly P w base outer ea C H' B s'.heap /\ (∀ b o, s.heap.get? b = some o -> b ∉ frs outer -> ∃ o', B.get? b = some o') /\ E C none H'
theorem Un.flown {fs ex : List Addr} {H H' : Hp} {h0 h1 h2 B : Heap} (u : Un fs ex H H' h0 h1) (cov : ∀ b o, h0.get? b = some o -> b ∉ fs -> b ∉ ex -> ∃ o', B.get? b = some o') (s1 : ∀ b o, B.get? b = some o -> h1.get? b = some o) (s2 : ∀ b o, B.get? b = some o -> h2.get? b = some o)
  (up : h1.UpToSlots h2) (fd : ∀ b ∈ fs, b ∉ ex /\ H b = none /\ ∀ o, h0.get? b = some o -> ∀ vs, o.data ≠ .fields vs) : Un fs ex H H' h0 h2 := by
 have keep : ∀ b o, h0.get? b = some o -> H b = none -> b ∉ fs -> b ∉ ex -> h2.get? b = some o := λ b o e n hb hx => by
  have e1 := u.keep b o e n hb hx
  obtain ⟨o', q⟩ := cov b o e hb hx
  have q1 := s1 b o' q
  rw [e1] at q1; cases q1
  exact s2 b o q
 have slot : ∀ b o, h0.get? b = some o -> H b = none -> b ∈ fs -> b ∉ ex -> ∃ sl, h2.get? b = some { o with slots := sl } := λ b o e n hb hx => by
  obtain ⟨sl, e1⟩ := u.slot b o e n hb hx
  obtain ⟨sl', e2⟩ := up b _ e1 ((fd b hb).2.2 o e)
  exact ⟨sl', e2⟩
 refine ⟨keep, slot, u.free, λ b o e hx => ?_, u.tups, u.frzs, u.tbls⟩
 by_cases hb : b ∈ fs
 ·obtain ⟨sl, q⟩ := slot b o e (fd b hb).2.1 hb hx
  exact ⟨_, q⟩
 ·obtain ⟨o', q⟩ := cov b o e hb hx
  exact ⟨o', s2 b o' q⟩
section
variable {X : Cx} {pins : List (Addr × Obj)} {σ : St} {H : Hp} {s : Shared}
theorem Inv.frameData (I : Inv X pins σ H s) : ∀ b ∈ X.fs, b ∉ X.ex /\ X.H₀ b = none /\ ∀ o, X.s₀.heap.get? b = some o -> ∀ vs, o.data ≠ .fields vs := λ b hb => by
 refine ⟨λ z => I.ok.exfs b z hb, I.ok.frf b hb, λ o e => ?_⟩
 obtain ⟨_, o', e', d⟩ := I.ok.funs.mem hb
 rw [e] at e'; cases e'
 exact d
theorem Inv.notStk (I : Inv X pins σ H s) {b : Addr} {o : Obj} (e : X.s₀.heap.get? b = some o) (hb : b ∉ X.fs) : b ∉ frs X.stack := λ z => by
 rcases List.mem_cons.mp (I.stkSub b z) with q | q
 ·exact absurd (Nat.lt_of_lt_of_le (Heap.lt_size e) I.ok.above) (by rw [q]; exact Nat.lt_irrefl _)
 ·exact hb q
theorem Inv.flown {h' : Heap} {t' : Nat} {l : List Env} {ea : Addr} {C : Value} {B : Heap} (I : Inv X pins σ H s) (F : Fly X.prog X.w X.base l ea C H B s.heap) (cov : ∀ b o, X.s₀.heap.get? b = some o -> b ∉ frs X.stack -> b ∉ X.ex -> ∃ o', B.get? b = some o')
  (pc : ∀ p ∈ X.pn ++ pins, ∃ o', B.get? p.1 = some o') (st : ∀ b o, B.get? b = some o -> h'.get? b = some o) (up : s.heap.UpToSlots h') : Inv X pins σ H { s with heap := h', toks := t' } := by
 have cellK : ∀ c v, s.heap.IsCell c v -> h'.IsCell c v := λ c v ⟨o, ho, hd⟩ => by
  obtain ⟨sl, q⟩ := up c o ho (λ vs z => by rw [hd] at z; cases z)
  exact ⟨_, q, hd⟩
 refine ⟨I.ok, I.os, I.bare, I.base.flown (λ b o e hb hx => cov b o e (I.notStk e hb) hx) F.stays st up I.frameData, ?_, λ x c e => ?_, I.free, I.freeC, λ p hp => ?_, F.hok.kept st, I.len⟩
 ·obtain ⟨m, hn, hl⟩ := I.loc
  refine ⟨m, up.ns hn, λ i x v e1 e2 e3 => ?_⟩
  obtain ⟨u, r, l⟩ := hl i x v e1 e2 e3
  refine ⟨u, r, ?_⟩
  rcases l with l | ⟨k, c, e, z⟩
  ·exact .inl l
  ·exact .inr ⟨k, c, e, cellK c _ z⟩
 ·obtain ⟨v, z⟩ := I.cell x c e
  exact ⟨v, cellK c v z⟩
 ·obtain ⟨e, n, ne, nf, d⟩ := I.pin p hp
  obtain ⟨o', q⟩ := pc p hp
  have q1 := F.stays _ _ q
  rw [e] at q1; cases q1
  exact ⟨st _ _ q, n, ne, nf, d⟩
end
section
variable {P : Program} {w : World} {K : PySem.W.Frag} {mg : Str -> Option Value} {base : Heap} {N : List Str} {qual : Str} {scope : Scope} {f : Addr} {cd : Value} {A : Around} {outer : List Env} {s : Shared} {H : Hp} {E : XK}
noncomputable abbrev cxD (P : Program) (w : World) (K : PySem.W.Frag) (mg : Str -> Option Value) (base : Heap) (N : List Str) (qual : Str) (scope : Scope) (f : Addr) (cd : Value) (A : Around) (outer : List Env) (s : Shared) (H : Hp) (E : XK) : Cx :=
 cxOf (CXx P w base) P w K mg base N qual scope f cd A outer s H E
theorem q7h {pins : List (Addr × Obj)} {σ : St} {H1 : Hp} {s1 : Shared} {h' : Heap} {ea : Addr} {C : Value} {vs : List Value} (I : Inv (cxD P w K mg base N qual scope f cd A outer s H E) pins σ H1 s1) (hx : Heap.MadeExcOf s1.heap h' ea C vs) (hE : E C none H1) :
  (cxD P w K mg base N qual scope f cd A outer s H E).xe (.ref ea) { s1 with heap := h' } := by
 have hstk := I.stack
 have hin : ∀ env ∈ (cxD P w K mg base N qual scope f cd A outer s H E).stack, ∀ a, env.frame = some a -> a ∈ frs (cxD P w K mg base N qual scope f cd A outer s H E).stack := λ env he b hb => List.mem_filterMap.mpr ⟨env, he, hb⟩
 have hB1 : ∀ b o, (PySem.W.hideAll s1.heap (frs (cxD P w K mg base N qual scope f cd A outer s H E).stack)).get? b = some o -> s1.heap.get? b = some o := λ b o q => PySem.W.of_hideAll _ q
 have hHid : ∀ b u, H1 b ≠ none -> s1.heap.get? b = some u -> (PySem.W.hideAll s1.heap (frs (cxD P w K mg base N qual scope f cd A outer s H E).stack)).get? b = some u := λ b u hb q => PySem.W.hideAll_get _ q λ z => hb (I.stkFree b z)
 refine wpAny_leaves_madeW (base := PySem.W.hideAll s1.heap (frs (cxD P w K mg base N qual scope f cd A outer s H E).stack)) (h := s1.heap) I.ok.frames rfl hB1 (PySem.W.funFrames_hide hstk hin) hx λ h2 t fl tup nt up => ?_
 have hcov : ∀ b o, s.heap.get? b = some o -> b ∉ frs outer -> ∃ o', (PySem.W.hideAll s1.heap (frs (cxD P w K mg base N qual scope f cd A outer s H E).stack)).get? b = some o' := λ b o e hb => by
  obtain ⟨o1, e1⟩ := I.base.there b o e (by intro z; exact nomatch z)
  exact ⟨o1, PySem.W.hideAll_get _ e1 (I.notStk e hb)⟩
 refine ⟨ea, C, H1, _, rfl, I.os, I.bare, I.base.flown (λ b o e hb _ => hcov b o e hb) hB1 fl.1 ((Heap.UpToSlots.of_keeps hx.keeps).trans up) I.frameData, ⟨⟨_, fl⟩, λ b o e => ?_, λ a o q => ?_⟩, hcov, hE⟩
 ·refine PySem.W.hideAll_get _ (I.bk b o e) λ z => ?_
  have q : base.get? b = none := (hstk.mem z).1
  rw [q] at e; cases e
 ·refine (I.hok a o q).stay (λ b u hc e => hHid b u ?_ e) (λ _ z => z) λ _ _ z => z
  rcases hc with z | z
  ·subst z; rw [q]; intro z; cases z
  ·rw [z]; intro z; cases z
theorem z1V {pins : List (Addr × Obj)} {σ : St} {H1 : Hp} {s1 : Shared} {ea : Addr} {C : Value} {B : Heap} (I : Inv (cxD P w K mg base N qual scope f cd A outer s H E) pins σ H1 s1) (F : Fly P w base (cxD P w K mg base N qual scope f cd A outer s H E).stack ea C H1 B s1.heap)
  (cov : ∀ b o, s.heap.get? b = some o -> b ∉ frs (cxD P w K mg base N qual scope f cd A outer s H E).stack -> ∃ o', B.get? b = some o') (hE : E C none H1) : (cxD P w K mg base N qual scope f cd A outer s H E).xe (.ref ea) s1 := by
 obtain ⟨a0, fl⟩ := F.fly
 refine wpAny_leaves_onW I.ok.frames rfl fl λ h2 fl2 up => ?_
 have hcov : ∀ b o, s.heap.get? b = some o -> b ∉ frs outer -> ∃ o', B.get? b = some o' := λ b o e hb => cov b o e (I.notStk e hb)
 exact ⟨ea, C, H1, B, rfl, I.os, I.bare, I.base.flown (λ b o e hb _ => hcov b o e hb) F.stays fl2.1 up I.frameData, ⟨⟨_, fl2⟩, F.bas, F.hok⟩, hcov, hE⟩
theorem q8t : z0D (CXx P w base) (cxD P w K mg base N qual scope f cd A outer s H E) E := by
 intro pins σ H0 s0 e s' I hcx
 obtain ⟨ea, C, H', B, rfl, os, bare, un, F, cov, hE⟩ := hcx
 have I' : Inv (cxD P w K mg base N qual scope f cd A outer s H E) pins σ H' s' := I.call' os un (F.hok.kept F.stays) bare λ b hb => nomatch hb
 refine z1V I' F (λ b o e hb => ?_) hE
 obtain ⟨o1, e1⟩ := I.base.there b o e (by intro z; exact nomatch z)
 exact cov b o1 e1 hb
end
noncomputable def excO (ea : Addr) (C : Value) : HO := .ext λ h => ∃ oe vs, h.get? ea = some oe /\ oe.cls = C /\ oe.data = .fields vs
theorem z4f {P : Program} {w : World} {H : Hp} {h : Heap} {ea : Addr} {C : Value} (x : ∃ oe vs, h.get? ea = some oe /\ oe.cls = C /\ oe.data = .fields vs) : q1v P w H h ea (excO ea C) := by
 refine ⟨x, ?_, λ h1 h2 p k => ?_⟩
 ·obtain ⟨oe, _, e, _⟩ := x; exact ⟨oe, e⟩
 ·obtain ⟨oe, vs, e, c, d⟩ := p
  exact ⟨oe, vs, k oe e, c, d⟩
noncomputable def XP (X : Cx) (pins : List (Addr × Obj)) (E : St -> Value -> Hp -> Prop) (e : Value) (s' : Shared) : Prop := ∃ (ea : Addr) (C : Value) (σ' : St) (H' : Hp) (B : Heap), e = .ref ea /\ Inv X pins σ' H' s' /\ Fly X.prog X.w X.base X.stack ea C H' B s'.heap /\
 (∀ b o, X.s₀.heap.get? b = some o -> b ∉ frs X.stack -> b ∉ X.ex -> ∃ o', B.get? b = some o') /\ (∀ p ∈ X.pn ++ pins, ∃ o', B.get? p.1 = some o') /\ E σ' C H'
noncomputable abbrev Cx.tryIn (X : Cx) (pins : List (Addr × Obj)) (E : St -> Value -> Hp -> Prop) : Cx := { X with pn := X.pn ++ pins, xe := XP X pins E }
noncomputable abbrev Cx.inExc (X : Cx) (ea : Addr) : Cx := { X with A := X.A.mark (some (.ref ea)), calm := false, xe := λ _ _ => False }
section
variable {X : Cx} {pins pins' : List (Addr × Obj)} {σ : St} {H : Hp} {s : Shared} {E : St -> Value -> Hp -> Prop} {ea : Addr}
theorem Cx.Ok.tryIn (k : X.Ok) : (X.tryIn pins E).Ok := ⟨k.mod, k.kind, k.glob, k.blt, k.above, k.inj, k.has, k.cab, k.hd, k.frames, k.stk, k.exf, k.bs, k.bsz, k.noex, k.exfs, k.funs, k.frf⟩
theorem Cx.Ok.untry (k : (X.tryIn pins E).Ok) : X.Ok := ⟨k.mod, k.kind, k.glob, k.blt, k.above, k.inj, k.has, k.cab, k.hd, k.frames, k.stk, k.exf, k.bs, k.bsz, k.noex, k.exfs, k.funs, k.frf⟩
theorem Cx.Ok.inExc (k : X.Ok) : (X.inExc ea).Ok := ⟨k.mod, k.kind, k.glob, k.blt, k.above, k.inj, k.has, k.cab, (λ z => (nomatch z)), k.frames, k.stk, k.exf, k.bs, k.bsz, k.noex, k.exfs, k.funs, k.frf⟩
theorem Inv.tryIn (I : Inv X (pins ++ pins') σ H s) : Inv (X.tryIn pins E) pins' σ H s :=
 ⟨I.ok.tryIn, I.os, I.bare, I.base, I.loc, I.cell, I.free, I.freeC, λ p hp => I.pin p (by have hp : p ∈ (X.pn ++ pins) ++ pins' := hp; rw [List.append_assoc] at hp; exact hp), I.hok, I.len⟩
theorem Inv.untry (I : Inv (X.tryIn pins E) pins' σ H s) : Inv X (pins ++ pins') σ H s :=
 ⟨I.ok.untry, I.os, I.bare, I.base, I.loc, I.cell, I.free, I.freeC, λ p hp => I.pin p (by show p ∈ (X.pn ++ pins) ++ pins'; rw [List.append_assoc]; exact hp), I.hok, I.len⟩
theorem Inv.inExc (I : Inv X pins σ H s) : Inv (X.inExc ea) pins σ H s := ⟨I.ok.inExc, I.os, I.bare, I.base, I.loc, I.cell, I.free, I.freeC, I.pin, I.hok, I.len⟩
theorem Inv.unExc (I : Inv (X.inExc ea) pins σ H s) (k : X.Ok) : Inv X pins σ H s := ⟨k, I.os, I.bare, I.base, I.loc, I.cell, I.free, I.freeC, I.pin, I.hok, I.len⟩
theorem Inv.track {a : Addr} {o : HO} (I : Inv X pins σ H s) (hn : H a = none) (h0 : X.s₀.heap.get? a = none) (hL : a ≠ X.env.locals) (hc : ∀ x c, X.env.cells.lookup x = some c -> c ≠ a) (hp : ∀ p ∈ X.pn ++ pins, p.1 ≠ a) (new : q1v X.prog X.w (upd H a o) s.heap a o) :
  Inv X pins σ (upd H a o) s :=
 ⟨I.ok, I.os, I.bare, I.base.track hn h0, I.loc, I.cell, by rw [q0x (Ne.symm hL)]; exact I.free, λ x c e => by rw [q0x (hc x c e)]; exact I.freeC x c e, λ p hq => by
  obtain ⟨e, n, ne, nf, d⟩ := I.pin p hq
  exact ⟨e, by rw [q0x (hp p hq)]; exact n, ne, nf, d⟩, I.hok.track hn new, I.len⟩
theorem q3h {M : Model} {A : Around} {EE : Value -> Shared -> Prop} {i : Nat} {x : Str} {pos : Pos} {Q : Unit -> Shared -> Prop} (I : Inv X pins σ H s) (hN : X.N.Nodup) (hi : X.N[i]? = some x) (hx : X.env.scope.names.lookup x = some .local)
  (h : ∀ s', Inv X pins (σ.set i none) H s' -> Q () s') : wpAny M A (do bindName X.env x .none; unbindBehindTheSuite X.env x pos) Q EE s := by
 obtain ⟨m, hn, hl⟩ := id I.loc
 have hcls : (X.env.scope.kind == .class || (X.env.scope.kind == .module && X.env.locals != X.env.globals)) = false := by rw [I.ok.kind]; rfl
 have hiσ : i < σ.length := by rw [I.len]; exact (List.getElem?_eq_some_iff.mp hi).1
 have cne := I.cne
 have tracked : ∀ {h' : Heap}, Heap.SameBut X.env.locals s.heap h' -> HOk X.prog X.w H h' := λ {h'} hs b ob e => by
  refine (I.hok b ob e).stay (λ c w' hc q => (hs.2 c ?_).trans q) (λ _ q => q) λ _ _ q => q
  rintro rfl
  rcases hc with rfl | hc
  ·rw [I.free] at e; cases e
  ·rw [I.free] at hc; cases hc
 refine wpAny_nameGoes_keeps hx hn hcls λ h' v hn' hs => ?_
 refine h _ ⟨I.ok, I.os, I.bare, ⟨λ b o e n hb hx => ?_, λ b o e n hb hx => ?_, I.base.free, λ b o e hx => ?_, I.base.tups, I.base.frzs, I.base.tbls⟩, ⟨_, hn', λ j y v' e1 e2 e3 => ?_⟩, λ y c e => ?_, I.free, I.freeC, λ p hp => ?_, tracked hs, by simpa using I.len⟩
 ·exact (hs.2 b (Nat.ne_of_lt (Nat.lt_of_lt_of_le (Heap.lt_size e) I.ok.above))).trans (I.base.keep b o e n hb hx)
 ·obtain ⟨sl, e1⟩ := I.base.slot b o e n hb hx
  exact ⟨sl, (hs.2 b (Nat.ne_of_lt (Nat.lt_of_lt_of_le (Heap.lt_size e) I.ok.above))).trans e1⟩
 ·obtain ⟨o', e1⟩ := I.base.there b o e hx
  exact ⟨o', (hs.2 b (Nat.ne_of_lt (Nat.lt_of_lt_of_le (Heap.lt_size e) I.ok.above))).trans e1⟩
 ·by_cases hj : j = i
  ·subst hj
   rw [List.getElem?_set_self hiσ] at e2
   cases e2
  ·rw [List.getElem?_set_ne (Ne.symm hj)] at e2
   obtain ⟨u', r', q⟩ := hl j y v' e1 e2 e3
   refine ⟨u', r', ?_⟩
   rcases q with ⟨k, e⟩ | ⟨k, c, e, z⟩
   ·refine .inl ⟨k, ?_⟩
    have : y ≠ x := λ e => hj (q4e hN e1 (e ▸ hi))
    simp [this, e]
   ·exact .inr ⟨k, c, e, z.sameBut hs (cne y c e)⟩
 ·obtain ⟨w', z⟩ := I.cell y c e
  exact ⟨w', z.sameBut hs (cne y c e)⟩
 ·obtain ⟨e, n, ne, nf, d⟩ := I.pin p hp
  exact ⟨(hs.2 p.1 ne).trans e, n, ne, nf, d⟩
end
noncomputable def q3I (CX : CXT) (X : Cx) (E : St -> XK) : Prop := ∀ (pins : List (Addr × Obj)) (σ : St) (H : Hp) (s : Shared) (e : Value) (s' : Shared), Inv X pins σ H s -> CX X.stack H s (E σ) e s' -> X.xe e s'
theorem z0D.s {CX : CXT} {X : Cx} {E : XK} (h : z0D CX X E) : q3I CX X λ _ => E := λ pins σ H s e s' I q => h pins σ H s e s' I q
theorem q8D {X : Cx} {pins : List (Addr × Obj)} {E : St -> Value -> Hp -> Prop} : q3I (CXx X.prog X.w X.base) (X.tryIn pins E) (λ σ C _ H => E σ C H) := by
 intro pins' σ H0 s0 e s' I hcx
 obtain ⟨ea, C, H', B, rfl, os, bare, un, F, cov, hE⟩ := hcx
 have I' : Inv (X.tryIn pins E) pins' σ H' s' := I.call' os un (F.hok.kept F.stays) bare λ b hb => nomatch hb
 have J := I'.untry
 refine ⟨ea, C, σ, H', B, rfl, J.pins_of λ p hp => J.pin p (List.mem_append_right _ (List.mem_append_left _ hp)), F, λ b o e hb hx => ?_, λ p hp => ?_, hE⟩
 ·obtain ⟨o1, e1⟩ := I.base.there b o e hx
  exact cov b o1 e1 hb
 ·obtain ⟨e, n, ne, nf, d⟩ := I.pin p (List.mem_append_left _ hp)
  exact cov p.1 p.2 e λ z => (List.mem_cons.mp (I.stkSub _ z)).elim ne nf
section
variable {X : Cx} {CX : CXT} {k : Nat} {f C : Addr} {fd : FuncData} {ps : List Str} {sp : Sp} {dvs : List V} {ds : List Value} {E : St -> XK} {x m : Str} {p pos apos : Pos} {e o : Expr} {es : List Expr} {ta : TE} {t : TA}
theorem z4r {pins : List (Addr × Obj)} {σ : St} {H : Hp} {s : Shared} {Q : VK} {us : List Value} {vs : List V} (F : FnOk X.prog X.w X.K X.mg X.base CX k f fd ps sp) (hr : Room k X.A) (hb : q4u X.K fd ps ds) (hd : Vals dvs ds) (hx : q3I CX X E)
  (I : Inv X pins σ H s) (r : Vals vs us) (h : sp (vs ++ dvs) H Q (E σ)) : wpAny (model X.prog X.w) X.A (call (.ref f) us) (EP X pins σ Q) X.xe s := by
 have r2 : Vals (vs ++ dvs) (us ++ ds) := r.append hd
 have hl : (us ++ ds).length = ps.length := by rw [<- r2.length]; exact F.len _ _ _ _ h
 refine wpAny_call (codeAny_mono (F.run X.A X.stack s H ⟨us, []⟩ (us ++ ds) (vs ++ dvs) Q (E σ) hr I.env0 (hb s us I.kIn hl) r2 h) λ r s' hq => ?_)
 cases r with
 | error e => exact hx pins σ H s e s' I hq
 | ok fl =>
  cases fl with
  | ret u => exact I.after hq
  | next => exact False.elim hq
  | brk => exact False.elim hq
  | cont => exact False.elim hq
noncomputable def z5w (sp : Sp) (dvs : List V) (E : St -> XK) (t : TA) : TE := λ σ H Q => t σ H λ vs H1 => sp (vs ++ dvs) H1 Q (E σ)
theorem z1a (F : FnOk X.prog X.w X.K X.mg X.base CX k f fd ps sp) (hr : Room k X.A) (hg : Gl X x) (hm : X.mg x = some (.ref f)) (hk : PySem.W.keepIn X.K (.ref f) = true) (hb : q4u X.K fd ps ds) (hd : Vals dvs ds) (hx : q3I CX X E)
  (ha : PA X (e :: es) t) (hdb : (x == ("__debug__" : Str)) = false := by decide) (he : starEach (e :: es) X.env = (false, eval e X.env) :: starEach es X.env := by rfl) (hpl : (backTo pos (starEach es X.env)).any (·.1) = false := by rfl) :
  PE X (.Call (.Name x p) (e :: es) [] pos) (z5w sp dvs E t) := by
 intro pins s σ H Q I h
 refine wpAny_Call_Name_kw (q5h I hg hm ?_ hdb)
 refine PySem.W.callWith_K (h₀ := X.base) I.ok.mod.kin hk (thn (ha pos pins s σ H _ I h) λ us s1 ⟨vs, H1, I1, r, q⟩ => ⟨I1.kIn, ?_⟩) he hpl
 exact z4r F hr hb hd hx I1 r q
end
noncomputable def tTry (K : PySem.W.Frag) (cv : Value) (i : Nat) (tb : (St -> Value -> Hp -> Prop) -> TS) (ts : TS) : TS := λ D σ H =>
 tb (λ σ' C H' => PySem.W.exmOne K C cv = some true /\ ∀ ea, H' ea = none -> ts { nx := λ σ2 H2 => D.nx (σ2.set i none) H2, rt := D.rt, bk := λ σ2 H2 => D.bk (σ2.set i none) H2, ct := λ σ2 H2 => D.ct (σ2.set i none) H2 } (σ'.set i (some (.ref ea))) (upd H' ea (excO ea C))) D σ H
theorem z6e {X : Cx} {body suite : List Stmt} {b₀ : Stmt} {c n : Str} {np hpos pos : Pos} {i : Nat} {tb : (St -> Value -> Hp -> Prop) -> TS} {ts : TS} {cv : Value} (hst : X.stack = X.env :: X.outer) (hfr : X.env.frame = some X.env.locals) (hex : X.ex = []) (hgl : Gl X c) (hm : X.mg c = some cv)
  (hN : X.N.Nodup) (hi : X.N[i]? = some n) (hl : X.env.scope.names.lookup n = some .local) (hb : ∀ pins E, PSs (X.tryIn pins E) body (tb E)) (hs : ∀ ea, PSs (X.inExc ea) (b₀ :: suite) ts) (hd : (c == ("__debug__" : Str)) = false := by decide) :
  PS X (.Try body [.ExceptHandler (some (.Name c np)) (some n) (b₀ :: suite) hpos] [] [] pos) (tTry X.K cv i tb ts) := by
 intro pins s σ H D I h
 refine wpAny_Try_except ?_
 have un : ∀ {σ1 : St} {H1 : Hp} {s1 : Shared} {E : St -> Value -> Hp -> Prop}, Inv (X.tryIn pins E) [] σ1 H1 s1 -> Inv X pins σ1 H1 s1 := λ {σ1 H1 s1 E} J => by
  have q := J.untry
  rw [List.append_nil] at q
  exact q
 refine wpAny_mono (hb pins _ [] s σ H D (Inv.tryIn (pins' := []) (by rw [List.append_nil]; exact I)) h) (λ f s1 q => ?_) (λ e s1 q => ?_)
 ·cases f with
  | next => obtain ⟨σ1, H1, I1, q1⟩ := q; exact wpAny_execs_nil ⟨σ1, H1, un I1, q1⟩
  | brk => obtain ⟨σ1, H1, I1, q1⟩ := q; exact ⟨σ1, H1, un I1, q1⟩
  | cont => obtain ⟨σ1, H1, I1, q1⟩ := q; exact ⟨σ1, H1, un I1, q1⟩
  | ret u => obtain ⟨v, σ1, H1, I1, r1, q1⟩ := q; exact ⟨v, σ1, H1, un I1, r1, q1⟩
 ·obtain ⟨ea, C, σ1, H1, B, rfl, I1, F, cov, pc, hE, hsuite⟩ := q
  obtain ⟨a0, fl⟩ := F.fly
  have fl' : Heap.FlyingW B (X.env :: X.outer) ea C a0 s1.heap := by rw [<- hst]; exact fl
  refine wpAny_looks_onW (by rw [<- hst]; exact I1.ok.frames) hfr fl' λ h4 held up4 => ?_
  refine wpAny_landsW held λ h5 fl5 up5 => ?_
  have up := up4.trans up5
  have I5 : Inv X pins σ1 H1 { s1 with heap := h5 } := I1.flown (t' := s1.toks) F cov pc fl5.1 up
  have J5 : Inv (X.inExc ea) pins σ1 H1 { s1 with heap := h5 } := I5.inExc
  obtain ⟨oe, ws, hoe, hoec, hoed, hoe0⟩ := fl5.first
  refine wpAny_handleBy_cons (codeAny_handlers_test ?_) (by intro q; cases q)
  refine q5h J5 hgl hm ?_ hd
  have LT : PySem.W.Looks (model X.prog X.w) h5 (typeOf (.ref ea)) C := hoec ▸ (PySem.W.Looks.ld hoe).andThen .now
  refine (PySem.W.exm_one (M := model X.prog X.w) (K := X.K) (h := h5) J5.kIn LT hE).here ?_
  show codeAny _ _ (.handlers (.ref ea) [.ExceptHandler none (some n) (b₀ :: suite) hpos] X.env) _ _
  refine codeAny_handlers_suite_as ?_
  refine lands_againW fl5 λ h6 fl6 up6 => ?_
  have I6 : Inv X pins σ1 H1 { s1 with heap := h6 } := I1.flown (t' := s1.toks) F cov pc fl6.1 (up.trans up6)
  obtain ⟨oe6, ws6, hoe6, hoec6, hoed6, _⟩ := fl6.first
  have hn : H1 ea = none := F.untr
  have h0 : X.s₀.heap.get? ea = none := by
   cases q : X.s₀.heap.get? ea with
   | none => rfl
   | some o =>
    exfalso
    by_cases hf : ea ∈ frs X.stack
    ·obtain ⟨_, o', e', d⟩ := I6.stack.mem hf
     have e'' : h6.get? ea = some o' := e'
     rw [hoe6] at e''; cases e''
     exact d _ hoed6
    ·obtain ⟨o', z⟩ := cov ea o q hf (by rw [hex]; intro z; exact nomatch z)
     rw [F.newE] at z; cases z
  have hL : ea ≠ X.env.locals := λ z => by
   obtain ⟨m, ⟨o, es, ep, ho, hdd, _⟩, _⟩ := I6.loc
   have ho' : h6.get? ea = some o := by rw [z]; exact ho
   rw [hoe6] at ho'; cases ho'
   rw [hoed6] at hdd; cases hdd
  have hc : ∀ x c, X.env.cells.lookup x = some c -> c ≠ ea := λ x c e z => by
   obtain ⟨v, o, ho, hdd⟩ := I6.cell x c e
   have ho' : h6.get? ea = some o := by rw [<- z]; exact ho
   rw [hoe6] at ho'; cases ho'
   rw [hoed6] at hdd; cases hdd
  have hp : ∀ p ∈ X.pn ++ pins, p.1 ≠ ea := λ p hp z => by
   obtain ⟨o', q⟩ := pc p hp
   rw [z, F.newE] at q; cases q
  have J6 : Inv (X.inExc ea) pins σ1 (upd H1 ea (excO ea C)) { s1 with heap := h6 } := (I6.track hn h0 hL hc hp (z4f ⟨oe6, ws6, hoe6, hoec6, hoed6⟩)).inExc
  refine q5l (X := X.inExc ea) (i := i) (v := .ref ea) J6 hN hi (Or.inl hl) rfl (λ s7 I7 => ?_) (.inr hl)
  refine wpAny_mono (hs ea pins s7 _ _ _ I7 (hsuite ea hn)) (λ f s8 q => ?_) λ _ _ z => z.elim
  cases f with
  | next => obtain ⟨σ8, H8, I8, q8⟩ := q; exact q3h (I8.unExc I.ok) hN hi hl λ s9 I9 => ⟨_, H8, I9, q8⟩
  | brk => obtain ⟨σ8, H8, I8, q8⟩ := q; exact q3h (I8.unExc I.ok) hN hi hl λ s9 I9 => ⟨_, H8, I9, q8⟩
  | cont => obtain ⟨σ8, H8, I8, q8⟩ := q; exact q3h (I8.unExc I.ok) hN hi hl λ s9 I9 => ⟨_, H8, I9, q8⟩
  | ret u => obtain ⟨v, σ8, H8, I8, r8, q8⟩ := q; exact q3h (I8.unExc I.ok) hN hi hl λ s9 I9 => ⟨v, _, H8, I9, r8, q8⟩
theorem z0U {K : PySem.W.Frag} {h₀ : Heap} {mg : Str -> Option Value} {x : Str} {C : Addr} {bmB : List Value} {newId : String} (X : K.In h₀) (hm : mg x = some (.ref C)) (q : PySem.W.excIn K C bmB newId = true) : OwnCls x C bmB newId mg h₀ := by
 refine ⟨hm, ?_⟩
 unfold PySem.W.excIn at q
 split at q
 ·rename_i dd cd sl ho
  split at q
  ·rename_i C' bm k0 k1 k2 k3 n k5 hm hs
   simp only [Bool.and_eq_true, beq_iff_eq, Bool.not_eq_true'] at q
   obtain ⟨⟨⟨⟨⟨rfl, rfl⟩, hdel⟩, ht⟩, hok⟩, hni⟩ := q
   obtain ⟨nm, bs, mro, ns, qn, hd, sn, sub, ab, col, del⟩ := cd
   dsimp only at hm hdel hok hni
   subst hm hdel
   have hsl : sl = #[k0, k1, k2, k3, some (.builtin n), k5] := by
    obtain ⟨l⟩ := sl
    simp only at hs
    rw [hs]
   subst hsl
   exact ⟨bm, ns, nm, qn, bs, hd, sn, sub, ab, col, dd, k0, k1, k2, k3, k5, _, X _ _ ho, .of_isNs (PySem.W.isNs_of_in X hok), PySem.W.nsMap_none_of_in X hok hni, PySem.W.tail_of_in X ht⟩
  ·cases q
 ·cases q
noncomputable def q4b (X : Cx) (E : St -> XK) : Prop := ∀ (pins : List (Addr × Obj)) (σ : St) (H : Hp) (s : Shared) (h' : Heap) (ea : Addr) (C : Value) (vs : List Value), Inv X pins σ H s -> Heap.MadeExcOf s.heap h' ea C vs -> E σ C none H -> X.xe (.ref ea) { s with heap := h' }
theorem q8C {P : Program} {w : World} {K : PySem.W.Frag} {mg : Str -> Option Value} {base : Heap} {N : List Str} {qual : Str} {scope : Scope} {f : Addr} {cd : Value} {A : Around} {outer : List Env} {s : Shared} {H : Hp} {E : XK} :
  q4b (cxD P w K mg base N qual scope f cd A outer s H E) λ _ => E := λ pins σ H1 s1 h' ea C vs I hx hE => q7h I hx hE
noncomputable def z6O (C : Addr) (E : St -> XK) (t : TA) : TS := λ _ σ H => t σ H λ vs H1 => vs.length <= sizeLine /\ E σ (.ref C) none H1
theorem z1F {X : Cx} {x : Str} {C : Addr} {bmB : List Value} {B newId initId : String} {np cpos pos : Pos} {e₀ : Expr} {rest : List Expr} {t : TA} {E : St -> XK} (FB : ExcBaseFacts B newId initId bmB) (hc : X.calm = true) (hg : Gl X x) (hm : X.mg x = some (.ref C)) (hx : PySem.W.excIn X.K C bmB newId = true)
  (hR : q4b X E) (ha : PA X (e₀ :: rest) t) (hd : (x == ("__debug__" : Str)) = false := by decide) (he : starEach (e₀ :: rest) X.env = (false, eval e₀ X.env) :: starEach rest X.env := by rfl) (hpl : (backTo cpos (starEach rest X.env)).any (·.1) = false := by rfl) :
  PS X (.Raise (some (.Call (.Name x np) (e₀ :: rest) [] cpos)) none pos) (z6O C E t) := by
 intro pins s σ H D I h
 obtain ⟨tl, N, nm, q, bs, hdct, sn, sub, ab, col, dd, k0, k1, k2, k3, k5, mN, hC, hN, hni, T⟩ := (z0U I.mod.kin hm hx).obj
 refine wpAny_Raise_call_subT (C := C) (nm := nm) (q := q) (N := N) (bs := bs) (bm := tl) (hdct := hdct) (sn := sn) (sub := sub) (ab := ab) (col := col) (dd := dd) (k0 := k0) (k1 := k1) (k2 := k2) (k3 := k3) (k5 := k5)
  FB (mN := mN) (T.hasType FB.hasBase) (I.ok.hd hc) (by rw [he]; show (false || (backTo cpos (starEach rest X.env)).any (·.1)) = false; rw [hpl]; rfl) hni (q5h I hg hm ⟨rfl, ?_⟩ hd)
 have hq := ha cpos pins s σ H _ I h
 rw [he] at hq ⊢
 exact Calls.evalArgs_plain (thn hq λ vs sB ⟨xs, H2, I2, r2, hl, hE⟩ => ⟨rfl, by show vs.length <= sizeLine; rw [<- r2.length]; exact hl, I2.bk _ _ hC, hN.keeps I2.bk, T.keeps I2.bk, λ h' e hm' => hR pins σ H2 sB h' e _ _ I2 hm' hE⟩)
end L2
end
section
namespace L2
open PySem PySem.W PySem.Spec PySem.Calls PyProof.Rows PySem.Builtin PySem.Builtin.ObjectAttr PySem.Builtin.Getset_descriptor
noncomputable def q6n (x D : Addr) (h : Heap) : Prop := ∃ o, h.get? x = some o /\ o.cls = .ref D
section
variable {prog : Program} {w : World} {K : Frag} {x D : Addr} {M : Model} {h : Heap}
theorem q6n.ty (p : q6n x D h) : Looks M h (typeOf (.ref x)) (.ref D) := by
 obtain ⟨o, e, c⟩ := p
 exact c ▸ (Looks.ld e).andThen .now
theorem q9F {a g : Value} {n : Str} (X : K.In h) (h1 : findIn K (.ref D) n = some (some a)) (h2 : specialIn K a "__get__" = some (some g)) (h3 : takesIn K a = some true) : Looks M h (find (.ref x) (.ref D) n) (.bind g a) := by
 have T : Looks M h (dataDescriptor? (some a) (some g)) (some (g, a)) := (looks_takesIn X h3).andThen .now
 exact (looks_findIn X h1).andThen ((show Looks M h (getOf (some a)) (some g) from looks_specialIn X h2).andThen (T.andThen (Looks.tag .now)))
structure ClsK (K : Frag) (D : Addr) : Prop where
 ga : findIn K (.ref D) "__getattribute__" = some (some (.builtin "BaseException.__getattribute__"))
 gt : findIn K (.ref D) "__getattr__" = some none
 mb : mroIn K D (.type "BaseException") = some true
 hd : hasDictIn K D = true
 fc : findIn K (.ref D) "__class__" = some (some (.builtin "object.__class__"))
 sg : specialIn K (.builtin "object.__class__") "__get__" = some (some (.builtin "getset_descriptor.__get__"))
 tk : takesIn K (.builtin "object.__class__") = some true
 mo : mroIn K D (.type "object") = some true
variable {A : Around} {E : Value -> Shared -> Prop} {s : Shared}
theorem z4F {tp : Value} {R : Result -> Shared -> Prop} (X : K.In s.heap) (p : q6n x D s.heap) (hm : mroIn K D (.type "object") = some true) (q : R (.ok (.ret (.ref D))) s) :
  codeAny (model prog w) A (.call (.builtin "getset_descriptor.__get__") ⟨[.builtin "object.__class__", .ref x, tp], []⟩) R s := by
 obtain ⟨h0, g0, d0, t0, o0⟩ := s
 have T0 := p.ty (M := model prog w)
 have T1 := looks_mroIn (M := model prog w) X hm
 refine codeAny_call_builtin KF.slot_gs.plain KF.entry_gs (KF.slot_gs.check _ _ _ _ _ _ _ _ KF.type_class (KF.args_gs _ _ _) ?_)
 unfold Builtin.«getset_descriptor.__get__»
 unfold descrGet
 rw [dga_obj]
 refine wpAny_bind (wpAny_pure ?_)
 unfold descrGetter
 unfold descrCheckInstance
 unfold descrNameAndClass
 unfold isInstance
 simp only [KF.owner_class]
 repeat lk
 refine ⟨Code.quiet_builtin _ (by decide +kernel), codeAny_builtin KF.entry_class ?_⟩
 unfold Builtin.«object.__class__»
 unfold shownTypeOf
 repeat lk
 exact q
theorem z1k {nm : Value} {Q : Unit -> Shared -> Prop} (C : ClsK K D) (X : K.In s.heap) (p : q6n x D s.heap) (q : Q () s) : wpAny (model prog w) A (checkBuiltinCall "BaseException.__getattribute__" ⟨[.ref x, nm], []⟩) Q E s := by
 obtain ⟨h0, g0, d0, t0, o0⟩ := s
 have k1 : builtinKind "BaseException.__getattribute__" = some .slot := by decide +kernel
 have k2 : splitId "BaseException.__getattribute__" = some ("BaseException", "__getattribute__") := by decide +kernel
 have T0 := p.ty (M := model prog w)
 have T1 := looks_mroIn (M := model prog w) X C.mb
 have ha := F.args_bexc_ga (.ref x) nm
 simp only [checkBuiltinCall, k1, k2]
 refine wpAny_bind ((show Looks (model prog w) _ (isInstance (.ref x) (.type "BaseException")) true from T0.andThen T1).at ?_)
 repeat (any_goals (first | assumption | wp_step))
theorem q9a {tk : Tok} {Q : Fin -> Shared -> Prop} (C : ClsK K D) (X : K.In s.heap) (p : q6n x D s.heap) (q : Q (.done (.ret (.ref D))) s) : wpAny (model prog w) A (Builtin.«object.__getattribute__» ⟨[.ref x, .str "__class__" tk], []⟩) Q E s := by
 obtain ⟨h0, g0, d0, t0, o0⟩ := s
 have T0 := p.ty (M := model prog w)
 have T3 := q9F (M := model prog w) (x := x) X C.fc C.sg C.tk
 unfold Builtin.«object.__getattribute__»
 repeat (any_goals (first | assumption | with_reducible refine T0.at ?_ | with_reducible refine T3.at ?_ | wp_step))
 refine z4F X p C.mo ?_
 repeat (any_goals (first | assumption | wp_step))
theorem z1m {Q : Option Value -> Shared -> Prop} (C : ClsK K D) (X : K.In s.heap) (p : q6n x D s.heap) (q : Q (some (.ref D)) { s with toks := s.toks + 1 }) : wpAny (model prog w) A (getAttr? (.ref x) "__class__") Q E s := by
 obtain ⟨h0, g0, d0, t0, o0⟩ := s
 have T0 := p.ty (M := model prog w)
 have T1 := looks_findIn (M := model prog w) X C.ga
 have T2 := looks_findIn (M := model prog w) X C.gt
 have f3 := F.attr_ValueError.ga.bind (.ref x)
 unfold getAttr?
 unfold getAttrBy?
 unfold getAttrBy
 refine wpAny_bind (wpAny_mkText (wpAny_bind (wpAny_attempt (wpAny_holding (wpAny_bind (T0.at (wpAny_bind (T1.at ?_))))))))
 dsimp only
 have ne : (onTheHeap (Value.ref D) && Value.builtin "BaseException.__getattribute__" == Value.builtin "object.__getattribute__") = false := by
  rw [show (Value.builtin "BaseException.__getattribute__" == Value.builtin "object.__getattribute__") = false by decide +kernel, Bool.and_false]
 rw [if_neg (by rw [ne]; exact Bool.false_ne_true)]
 unfold getAttrByItsOwn
 unfold hookBefore
 rw [if_pos (show onTheHeap (Value.ref D) = true from rfl)]
 refine wpAny_bind (T2.at ?_)
 refine wpAny_bind (wpAny_attempt (wpAny_holding ?_))
 unfold callGetattribute
 rw [if_neg (by decide)]
 repeat (any_goals (first | assumption | wp_step))
 refine codeAny_call_builtin F.attr_ValueError.ga.plain F.entry_bexc_ga (z1k C X p (q9a C X p ?_))
 exact handed_on rfl (wpAny_pure q)
theorem z4J (C : ClsK K D) : KitX K (.ref x) (.ref D) (q6n x D) where
 ty := λ _ _ _ p => p.ty
 it := λ M h X _ => by
  obtain ⟨cd, e, _⟩ := any_some C.hd
  unfold clsIn at e
  split at e
  ·rename_i ho
   intro A1 Q1 E1 s1 k1 q1
   unfold isType
   unfold loadHead
   exact wpAny_bind (wpAny_loadPart (k1 _ _ (X _ _ ho)) (wpAny_pure q1))
  ·cases e
 ne := λ h tp dd its n sl X e2 => by
  obtain ⟨cd, e, _⟩ := any_some C.hd
  rw [Bool.eq_false_iff]
  intro z
  have e1 : D = tp := Value.ref.inj (beq_iff_eq.mp z)
  subst e1
  unfold clsIn at e
  split at e
  ·rename_i ho
   cases (X _ _ ho).symm.trans e2
  ·cases e
 ca := λ X p k => z1m C X p k
theorem z4t {c : Value} {b : Bool} {Q : Value -> Shared -> Prop} (C : ClsK K D) (X : K.In s.heap) (p : q6n x D s.heap) (e : kitOne K (.ref D) c = some b) (q : ∀ tk, Q (.bool b) { s with toks := tk }) : wpAny (model prog w) A (call (.builtin "isinstance") [.ref x, c]) Q E s :=
 kia_one (z4J C) X p e (λ z => nomatch z) q
end
end L2
end
section
namespace L2
open PySem PySem.Spec PyProof.Rows
structure Src (P : Program) (w : World) (ia la : Addr) (vs : Array Value) (S : Nat -> Heap -> Prop) : Prop where
 keep : ∀ k h h', S k h -> (∀ o, h.get? ia = some o -> h'.get? ia = some o) -> (∀ o, h.get? la = some o -> h'.get? la = some o) -> S k h'
 there : ∀ k h, S k h -> ∃ o xs, h.get? ia = some o /\ o.data = .fields xs
 step : ∀ {A : Around} {E : Value -> Shared -> Prop} {s : Shared} {Q : Value -> Shared -> Prop} (k : Nat) (x : Value), S k s.heap -> vs[k]? = some x -> (∀ h', S (k + 1) h' -> Heap.SameBut ia s.heap h' -> Q x { s with heap := h' }) ->
  wpAny (model P w) A (Builtin.SmallTypes.nextOf (.ref ia)) Q E s
 stop : ∀ {A : Around} {E : Value -> Shared -> Prop} {s : Shared} {Q : Value -> Shared -> Prop} (k : Nat), A.handled = none -> S k s.heap -> vs[k]? = none ->
  (∀ h' e, Heap.ExtBut ia s.heap h' -> (∃ o, h'.get? e = some o /\ o.cls = .type "StopIteration") -> E (.ref e) { s with heap := h' }) -> wpAny (model P w) A (Builtin.SmallTypes.nextOf (.ref ia)) Q E s
section
variable {P : Program} {w : World} {A : Around} {E : Value -> Shared -> Prop} {s : Shared}
variable {Z U W a b l1 l2 : Addr} {k : Nat} {vs1 vs2 : Array Value} {S1 S2 : Nat -> Heap -> Prop} {x y c d : Value}
end
end L2
end
section
namespace PySem.SeqAt
open AutoSeq1 (wpAny_loadPart')
open MeetsSeq MeetsSeq2 MeetsSeq3 SeqRoads2
theorem q4J {M : Model} {A : Around} {E : Value -> Shared -> Prop} {s : Shared} {β : Type} (f : Nat -> β -> Sem (ForInStep β)) (I : List Nat -> β -> Shared -> Prop) (Q : β -> Shared -> Prop)
  {n : Nat} {b : β} (turn : ∀ x rest b s, I (x :: rest) b s -> wpAny M A (f x b) (λ r s' => match r with | .yield b' => I rest b' s' | .done b' => Q b' s') E s)
  (fin : ∀ b s, I [] b s -> Q b s) (h : I (List.range' 0 n 1) b s) : wpAny M A (forIn [:n] b f) Q E s := by
 rw [Std.Legacy.Range.forIn_eq_forIn_range']
 have hsz : ([:n] : Std.Legacy.Range).size = n := by simp [Std.Legacy.Range.size]
 show wpAny M A (forIn (List.range' 0 ([:n] : Std.Legacy.Range).size 1) b f) Q E s
 rw [hsz]
 exact wpAny_forIn_list f I Q turn fin _ b h
theorem q5q (l : Addr) (items : Array Value) (n : Nat) (dd : Option Addr) (sl : Array (Option Value)) (x : Value) (e : Value -> Bool) (j : Nat) (hj : j < items.size)
  (hit : e items[j] = true) (hno : ∀ m (hm : m < items.size), m < j -> e items[m] = false) :
  Meets (Builtin.«tuple.index» ⟨[.ref l, x], []⟩)
   (λ A R s => s.heap.get? l = some { cls := .type "tuple", dict := dd, data := .seq items n, slots := sl } /\ (∀ y, y ∈ items -> EqAt A.in1 s y x (e y)) /\ R (.ok (.ret (.int j s.toks))) { s with toks := s.toks + 1 }) :=
 .of_wp λ prog w A R s h => by
  obtain ⟨hp, g, d, tk, os⟩ := s; obtain ⟨hl, he, h⟩ := h
  wp_walk using wpAny_loadPart' hl, q4J _ (λ rest b s' => b.1 = none /\ s' = ⟨hp, g, d, tk, os⟩ /\ ∃ i, i <= j /\ rest = List.range' i (items.size - i) 1) _
  case turn =>
   rintro i rest b s' ⟨hb, rfl, i', hi', hr⟩
   obtain ⟨m, hm⟩ : ∃ m, items.size - i' = m + 1 := ⟨items.size - i' - 1, by omega⟩
   rw [hm, List.range'_succ] at hr
   obtain ⟨rfl, rfl⟩ := List.cons.inj hr
   have hlt : i < items.size := by omega
   rw [show items[i]? = some items[i] by simp [hlt]]
   refine wpAny_bind (he _ (Array.getElem_mem hlt) prog w _ _ ?_)
   by_cases q : i = j
   ·subst q
    rw [hit]
    wp_walk
    exact ⟨_, rfl, h⟩
   ·rw [hno i hlt (by omega)]
    wp_walk
    exact ⟨rfl, rfl, i + 1, by omega, by congr 1; omega⟩
  case fin =>
   rintro ⟨b1, b2⟩ s' ⟨hb, rfl, i, hi, hr⟩
   obtain ⟨m, hm⟩ : ∃ m, items.size - i = m + 1 := ⟨items.size - i - 1, by omega⟩
   rw [hm, List.range'_succ] at hr
   cases hr
  case h =>
   exact ⟨rfl, rfl, 0, Nat.zero_le _, by simp⟩
section
variable {prog : Program} {w : World} {A : Around} {E : Value -> Shared -> Prop} {s : Shared}
theorem q7W {h : Heap} {d : PyData} : ∀ (xs : List PyData) (vs : List Value) (as : List Addr), PyData.canLayAll0 xs = true -> ReadsAll h vs xs as -> vs.length = xs.length /\ ∀ m (h1 : m < vs.length) (h2 : m < xs.length), PyData.eqv (readOf h vs[m]) d = PyData.eqv xs[m] d := by
 intro xs vs as hc r
 have e := readsAll_map xs vs as hc r
 have hl : vs.length = xs.length := by rw [<- e, List.length_map]
 refine ⟨hl, λ m h1 h2 => ?_⟩
 congr 1
 subst e
 rw [List.getElem_map]
theorem index_list_reads {c x : Value} {xs : List PyData} {d : PyData} {as bs : List Addr} {Q : Value -> Shared -> Prop} {j : Nat} (rc : Reads s.heap c (.list xs) as) (rx : Reads s.heap x d bs) (hxs : PyData.canLayAll0 xs = true) (hd : d.canLay0 = true)
  (hu : A.units + 1 + min (PyData.depthAll xs) d.depth < cLine) (hj : j < xs.length) (hj63 : (j : Int) < 2 ^ 63 - 1) (hit : PyData.eqv xs[j] d = true) (hno : ∀ m (hm : m < xs.length), m < j -> PyData.eqv xs[m] d = false) (h : Q (.int j s.toks) { s with toks := s.toks + 1 }) : wpAny (model prog w) A (call (.builtin "list.index") [c, x]) Q E s := by
 cases rc with
 | list h1 h2 h3 h4 =>
  rename_i l o vs n as'
  obtain ⟨cls, dd, data, sl⟩ := o
  simp only at h2 h3
  subst h2 h3
  obtain ⟨hl, ha⟩ := q7W (d := d) xs vs.toList _ hxs h4
  have hl' : vs.size = xs.length := by rw [<- hl]; simp
  refine PySem.call_meets PySem.F.slot_list_index ⟨_, h1, rfl⟩ PySem.F.entry_list_index (PySem.F.args_list_index_2 _ _)
   (list_indexAt l vs _ dd sl x (λ y => PyData.eqv (readOf s.heap y) d) j (by omega) hj63 ?_ ?_) ⟨h1, items_eqAt h4 rx hxs hd hu, h⟩
  ·rw [<- hit]
   exact ha j (by simpa using (by omega : j < vs.size)) hj
  ·intro m hm hlt
   rw [<- hno m (by omega) hlt]
   exact ha m (by simpa using hm) (by omega)
theorem index_tuple_reads {c x : Value} {xs : List PyData} {d : PyData} {as bs : List Addr} {Q : Value -> Shared -> Prop} {j : Nat} (rc : Reads s.heap c (.tuple xs) as) (rx : Reads s.heap x d bs) (hxs : PyData.canLayAll0 xs = true) (hd : d.canLay0 = true)
  (hu : A.units + 1 + min (PyData.depthAll xs) d.depth < cLine) (hj : j < xs.length) (hit : PyData.eqv xs[j] d = true) (hno : ∀ m (hm : m < xs.length), m < j -> PyData.eqv xs[m] d = false) (h : Q (.int j s.toks) { s with toks := s.toks + 1 }) : wpAny (model prog w) A (call (.builtin "tuple.index") [c, x]) Q E s := by
 cases rc with
 | tuple h1 h2 h3 h4 =>
  rename_i l o vs n
  obtain ⟨cls, dd, data, sl⟩ := o
  simp only at h2 h3
  subst h2 h3
  obtain ⟨hl, ha⟩ := q7W (d := d) xs vs.toList _ hxs h4
  have hl' : vs.size = xs.length := by rw [<- hl]; simp
  refine PySem.call_meets PySem.F.slot_tuple_index ⟨_, h1, rfl⟩ PySem.F.entry_tuple_index (PySem.F.args_tuple_index_2 _ _)
   (q5q l vs _ dd sl x (λ y => PyData.eqv (readOf s.heap y) d) j (by omega) ?_ ?_) ⟨h1, items_eqAt h4 rx hxs hd hu, h⟩
  ·rw [<- hit]
   exact ha j (by simpa using (by omega : j < vs.size)) hj
  ·intro m hm hlt
   rw [<- hno m (by omega) hlt]
   exact ha m (by simpa using hm) (by omega)
end
end PySem.SeqAt
end
section
namespace PySem
section
variable {prog : Program} {w : World} {A : Around} {E : Value -> Shared -> Prop} {s : Shared}
theorem q2L (a b : Int) : Builtin.Range.rangeSize a b (-1) = if b < a then a - b else 0 := by
 unfold Builtin.Range.rangeSize
 simp
theorem q8V {a b : Int} (ha : -(2 ^ 62) <= a) (ha' : a < 2 ^ 62) (hb : -(2 ^ 62) <= b) (hb' : b < 2 ^ 62) : Builtin.Range.small a b (-1) = true := by
 unfold Builtin.Range.small
 rw [q2L]
 simp only [Builtin.Range.rangeFitsLong, Bool.and_eq_true, Bool.or_eq_true, decide_eq_true_eq, beq_iff_eq, show ¬ ((-1 : Int) > 0) by decide, if_false]
 split <;> omega
end
end PySem
namespace L2
open PySem PySem.Spec PyProof.Rows
variable {X : Cx} {tg : Expr}
noncomputable def Itd (hi : Int) (n : Nat) : It := ⟨λ i _ => i < n, λ i H x H' => H' = H /\ x = .int (hi - i), λ i _ => n <= i⟩
theorem z0g {P : Program} {w : World} {K : PySem.W.Frag} {tg : Expr} (it : Addr) (hi : Int) (n : Nat) : Turn P w K tg (Itd hi n) [it] it (λ i h => IsRangeIter h it (hi + (i : Nat) * (-1)) ((n : Int) - (i : Nat)) (-1)) where
 mem := by simp
 obj := λ i h st b hb => by
  have e : b = it := by simpa using hb
  subst e
  exact ⟨_, st, λ v z => by
   have z' : Data.fields _ = Data.cell v := z
   cases z'⟩
 keep := λ i h h' st k => k it (by simp) _ st
 item := by
  intro X hP hw hK hc i pins s σ H E I hf st hg
  subst hP hw hK
  obtain ⟨f0, f1, f2, f3, f4, f5⟩ := hf it (by simp)
  have W := Walks.range (prog := X.prog) (w := X.w) (I.ok.hd hc) it hi (-1) n
  refine W.item i s _ _ hg st λ v h' tk hv st' kk => ?_
  obtain ⟨t, rfl⟩ := hv
  have I1 : Inv X pins σ H { s with heap := h', toks := tk } := I.turned (λ b o hb e => kk b o (by simpa using hb) e) f0 f1 f3 f4 f5
  refine ⟨_, rfl, z1j (s := { s with heap := h', toks := tk }) (n := "range_iterator") st' rfl rfl (by decide) ⟨.int (hi - i), H, I1, ⟨t, ?_⟩, ⟨rfl, rfl⟩, st', λ b hb => (hf b hb).1⟩⟩
  rw [show hi + (i : Int) * (-1) = hi - i by omega]
 done := by
  intro X hP hw hK hc i pins s σ H E I hf st hg
  subst hP hw hK
  obtain ⟨f0, f1, f2, f3, f4, f5⟩ := hf it (by simp)
  exact wpAny_pyNext_range_end (I.ok.hd hc) st (by have : n <= i := hg; omega) λ h' eb => ⟨rfl, I.turned (t' := s.toks) (λ b o hb e => eb b o hb e) f0 f1 f3 f4 f5⟩
 self := λ _ _ _ _ _ st h => wpAny_pyIter_rangeiter st h
theorem z4R {pins : List (Addr × Obj)} {σ : St} {H : Hp} {s : Shared} {R : It -> Hp -> Prop} {E : Value -> Shared -> Prop} {lo hi : Int} {t u v : Tok} {tk : Nat} (I : Inv X pins σ H s) (h1 : -(2 ^ 62) <= lo) (h2 : lo < 2 ^ 62) (h3 : -(2 ^ 62) <= hi) (h4 : hi < 2 ^ 62)
  (q : R (Itd lo (lo - hi).toNat) H) : wpAny (model X.prog X.w) X.A (pyIter (.ref s.heap.objs.size)) (PIE X pins σ tg R) E { s with heap := s.heap.push { cls := .type "range", data := .fields #[.int lo t, .int hi u, .int (-1) v] }, toks := tk } := by
 refine wpAny_pyIter_range (IsRange.new ..) (q8V h1 h2 h3 h4) ?_
 have I1 : Inv X pins σ H { s with heap := s.heap.push { cls := .type "range", data := .fields #[.int lo t, .int hi u, .int (-1) v] }, toks := tk } := I.kept λ b o e => Heap.get?_push_of_some _ e
 refine ⟨(s.heap.push { cls := .type "range", data := .fields #[.int lo t, .int hi u, .int (-1) v] }).objs.size, [(s.heap.push { cls := .type "range", data := .fields #[.int lo t, .int hi u, .int (-1) v] }).objs.size], _, _, H, rfl,
  I1.kept (t' := tk) λ b o e => Heap.get?_push_of_some _ e, z0g _ lo (lo - hi).toNat, ?_, λ b hb => ?_, q⟩
 ·have e1 : lo + ((0 : Nat) : Int) * (-1) = lo := by simp
  have e2 : (((lo - hi).toNat : Nat) : Int) - ((0 : Nat) : Int) = Builtin.Range.rangeSize lo hi (-1) := by rw [q2L]; split <;> omega
  show IsRangeIter _ _ (lo + ((0 : Nat) : Int) * (-1)) ((((lo - hi).toNat : Nat) : Int) - ((0 : Nat) : Int)) (-1)
  rw [e1, e2]
  exact Heap.get?_push_size _ rfl
 ·have e : b = (s.heap.push { cls := .type "range", data := .fields #[.int lo t, .int hi u, .int (-1) v] }).objs.size := by simpa using hb
  subst e
  exact I1.fpOk (Nat.le_refl _) (I1.hok.fresh (Nat.le_refl _))
noncomputable def z7u (ta : TA) : TI := λ σ H R => ta σ H λ vs H1 => ∃ i j : Int, vs = [.int i, .int j, .int (-1)] /\ (-(2 ^ 62) <= i /\ i < 2 ^ 62 /\ -(2 ^ 62) <= j /\ j < 2 ^ 62) /\ R (Itd i (i - j).toNat) H1
theorem noPl (a : Int) : Builtin.divisionGoesByPylong a (-1) = false := PyProof.noPylong_small (by omega)
theorem q9t {a b c : Expr} {ta : TA} {p pos : Pos} (hg : Gl X "range") (hm : X.mg "range" = none) (ha : PA X [a, b, c] ta) (hs : starEach [a, b, c] X.env = [(false, eval a X.env), (false, eval b X.env), (false, eval c X.env)]) (hs2 : starEach [b, c] X.env = [(false, eval b X.env), (false, eval c X.env)]) :
  PI X tg (.Call (.Name "range" p) [a, b, c] [] pos) (z7u ta) := by
 intro pins s σ H R I h
 refine Call_ (q4V I hg hm boot_range (PyProof.Rows.callWith_type1 (thn (ha pos pins s σ H _ I h) λ us s1 ⟨vs, H1, I1, r1, q1⟩ => ?_) (by rw [hs, hs2]) (by rw [hs2]; rfl)))
 obtain ⟨i, j, e, ⟨q1, q2, q3, q4⟩, q⟩ := q1
 subst e
 cases r1 with
 | cons r rr =>
  cases rr with
  | cons r' rr =>
   cases rr with
   | cons r'' rr =>
    cases rr
    obtain ⟨t, rfl⟩ := r
    obtain ⟨t', rfl⟩ := r'
    obtain ⟨t'', rfl⟩ := r''
    exact call_range_3 (by decide) (z4R I1 q1 q2 q3 q4 q) (Or.inl (noPl _))
end L2
end
section
namespace L2
open PySem
inductive DKey where
 | i (n : Int) | s (x : Str) | t (l : List (Sum Int Str))
 deriving DecidableEq
inductive DV where
 | non | bl (b : Bool) | int (i : Int) | str (x : Str) | tup (ds : List DV) | lst (ds : List DV) | dct (ks : List DKey) (vs : List DV)
 | exc (c : Str) | fn (x : Str)
 | scr (ns : List Int)
inductive Cl where
 | weak | top | strong | fresh | ft
 deriving DecidableEq
inductive Re where
 | ok (d : DV) (c : Cl) | ex (c : Str)
inductive Rs where
 | ok (l : List (DV × Cl)) | ex (c : Str)
inductive Rt where
 | ok (b : Bool) | ex (c : Str)
inductive Sv where
 | no | val (d : DV) | own (d : DV) | ot (d : DV)
 | o2 (d : DV)
inductive Ou where
 | v (d : DV) (fr : Bool) | x (c : Str) | t (d : DV)
inductive Out where
 | nx (δ : List Sv) | rt (d : DV) (fr : Bool) | ex (c : Str) (δ : List Sv) | rtt (d : DV)
inductive Bi where
 | len | min | max | sorted | sset | int | list | tuple
 deriving DecidableEq
inductive Mt where
 | bitLength | index | get
 deriving DecidableEq
inductive Tg where
 | one (i : Nat) | many (is : List Nat)
inductive ME where
 | var (i : Nat) | int (i : Int) | bl (b : Bool) | str (x : Str) | non | glb (x : Str)
 | bin (op : Operator) (a b : ME)   | not (a : ME)
 | cmp (op : CmpOp) (a b : ME)
 | and (es : List ME) | or (es : List ME) | ite (c a b : ME)
 | lst (es : List ME) | tup (es : List ME)
 | ix (a b : ME) | sl (a lo hi : ME) | slf (a lo : ME) | slt (a hi : ME)
 | call (f : Nat) (es : List ME)   | bi (f : Bi) (es : List ME) | isi (a : ME) (ts : List Str) | isx (a : ME) (t : Str)
 | comp (elt : ME) (tg : Tg) (it : ME) (fr : List (Option Nat)) | compi (elt : ME) (tg : Tg) (it c : ME) (fr : List (Option Nat))
 | idx (a b : ME)
 | rng (es : List ME)
inductive MS where
 | set (i : Nat) (own : Bool) (e : ME)
 | app (i : Nat) (e : ME) | ext (i : Nat) (e : ME) | seti (i : Nat) (k e : ME)
 | exp (e : ME) | ret (e : ME)  | iff (c : ME) (a b : List MS) | fo (tg : Tg) (it : ME) (body : List MS)
 | rse (c : Str) (e : ME) | tryc (body : List MS) (c : Str) (ie ic : Nat)
 | frz (i : Nat)
structure FD where
 n : Nat
 np : Nat
 dfl : List DV := []
 kn : Option Str := none
 body : List MS
noncomputable def Re.thn (r : Option Re) (k : DV -> Cl -> Option Re) : Option Re := match r with
 | none => none
 | some (.ex c) => some (.ex c)
 | some (.ok d c) => k d c
noncomputable def Rs.thn (r : Option Rs) (k : List (DV × Cl) -> Option Re) : Option Re := match r with
 | none => none
 | some (.ex c) => some (.ex c)
 | some (.ok l) => k l
noncomputable def Rt.thn (r : Option Rt) (k : Bool -> Option Re) : Option Re := match r with
 | none => none
 | some (.ex c) => some (.ex c)
 | some (.ok b) => k b
noncomputable def Re.thnT (r : Option Re) (k : DV -> Cl -> Option Rt) : Option Rt := match r with
 | none => none
 | some (.ex c) => some (.ex c)
 | some (.ok d c) => k d c
mutual
noncomputable def DV.immut : DV -> Bool
 | .non => true | .bl _ => true | .int _ => true | .str _ => true | .exc _ => true | .fn _ => true | .scr _ => true
 | .tup ds => DV.immuts ds
 | .lst _ => false | .dct _ _ => false
noncomputable def DV.immuts : List DV -> Bool
 | [] => true
 | d :: r => d.immut && DV.immuts r
end
noncomputable def stro (d : DV) : Cl -> Bool
 | .strong => true | .fresh => true | .ft => true | _ => d.immut
noncomputable def stros (l : List (DV × Cl)) : Bool := l.all λ p => stro p.1 p.2
noncomputable def Cl.item : Cl -> Cl
 | .weak => .weak | _ => .strong
noncomputable def Cl.anew : Cl -> Cl -> Cl
 | .weak, _ => .weak | _, .weak => .weak | _, _ => .fresh
noncomputable def mostLen : Nat := 1000000
mutual
noncomputable def deq : DV -> DV -> Bool
 | .non, .non => true
 | .bl a, .bl b => a == b
 | .bl a, .int j => (if a then 1 else 0) == j
 | .int i, .bl b => i == (if b then 1 else 0)
 | .int i, .int j => i == j
 | .str a, .str b => decide (a = b)
 | .tup a, .tup b => deqs a b
 | .lst a, .lst b => deqs a b
 | _, _ => false
noncomputable def deqs : List DV -> List DV -> Bool
 | [], [] => true
 | a :: r, b :: s => deq a b && deqs r s
 | _, _ => false
end
mutual
noncomputable def DV.plain : Nat -> DV -> Bool
 | _, .non => true | _, .bl _ => true | _, .int _ => true
 | _, .str x => x.cps.all (· < 0x110000)
 | 0, _ => false
 | n + 1, .tup ds => DV.plains n ds | n + 1, .lst ds => DV.plains n ds
 | _, _ => false
noncomputable def DV.plains : Nat -> List DV -> Bool
 | _, [] => true
 | n, d :: r => d.plain n && DV.plains n r
end
noncomputable def q2z : DV -> Option Bool
 | .non => some false
 | .bl b => some b
 | .int i => some (i != 0)
 | .str x => some (x.cps.size != 0)
 | .tup ds => some (!ds.isEmpty)
 | .lst ds => some (!ds.isEmpty)
 | _ => none
noncomputable def q2a (n : Nat) (i : Int) : Option Nat := if 0 <= i then (if i < n then some i.toNat else none) else if -(n : Int) <= i then some (i + n).toNat else none
noncomputable def atD (ds : List DV) (i : Int) : Option DV := (q2a ds.length i).bind λ j => ds[j]?
noncomputable def ixD (a b : DV) : Option DV := match a, b with
 | .scr ns, .int i => ((q2a ns.length i).bind λ j => ns[j]?).map DV.int
 | .lst ds, .int i => atD ds i
 | .tup ds, .int i => atD ds i
 | .str z, .int i => (q2a z.cps.size i).bind λ j => (z.cps[j]?).map λ c => .str ⟨#[c]⟩
 | _, _ => none
noncomputable def slIx (n d : Nat) : Option Int -> Nat
 | none => d
 | some v => if v < 0 then (v + (n : Int)).toNat else min v.toNat n
noncomputable def cutD (ds : List DV) (lo hi : Option Int) : List DV := (ds.drop (slIx ds.length 0 lo)).take (slIx ds.length ds.length hi - slIx ds.length 0 lo)
noncomputable def slD (a : DV) (lo hi : Option Int) : Option DV := match a with
 | .scr ns => some (.lst (cutD (ns.map DV.int) lo hi))
 | .lst ds => some (.lst (cutD ds lo hi))
 | .tup ds => if slIx ds.length 0 lo = 0 /\ slIx ds.length ds.length hi = ds.length then none else some (.tup (cutD ds lo hi))
 | _ => none
noncomputable def slCl (a : DV) (c : Cl) : Cl := match a with
 | .scr _ => .fresh
 | .lst _ => Cl.anew c c
 | _ => c.item
noncomputable def q4y (i j : Int) : Bool := (decide (-(2 ^ 64) < i) && decide (i < 2 ^ 64)) || (decide (-(2 ^ 64) < j) && decide (j < 2 ^ 64))
noncomputable def binD (op : Operator) (a b : DV) (ca cb : Cl) : Option Re := match op, a, b with
 | .Add, .int i, .int j => some (.ok (.int (i + j)) .strong)
 | .Sub, .int i, .int j => some (.ok (.int (i - j)) .strong)
 | .Mult, .int i, .int j => if q4y i j then some (.ok (.int (i * j)) .strong) else none
 | .Mod, .int i, .int j => if 0 < j then some (.ok (.int (i % j)) .strong) else none
 | .FloorDiv, .int i, .int j => if 0 < j /\ j < 1073741824 then some (.ok (.int (i / j)) .strong) else none
 | .RShift, .int i, .int j => if 0 <= j then some (.ok (.int (i / 2 ^ j.toNat)) .strong) else none
 | .Add, .lst x, .lst y => if x.length + y.length <= mostLen then some (.ok (.lst (x ++ y)) (Cl.anew ca cb)) else none
 | _, _, _ => none
noncomputable def isN : DV -> Bool
 | .non => true
 | _ => false
noncomputable def cmpD (op : CmpOp) (a b : DV) : Option Bool := match op, a, b with
 | .Lt, .int i, .int j => some (decide (i < j))
 | .LtE, .int i, .int j => some (decide (i <= j))
 | .GtE, .int i, .int j => some (decide (j <= i))
 | .Eq, a, b => if a.plain 60 && b.plain 60 then some (deq a b) else none
 | .NotEq, a, b => if a.plain 60 && b.plain 60 then some (!deq a b) else none
 | .Is, a, .non => some (isN a)
 | .NotIn, a, .lst ds => if a.plain 60 && DV.plains 60 ds then some (!ds.any λ d => deq d a) else none
 | .NotIn, a, .tup ds => if a.plain 60 && DV.plains 60 ds then some (!ds.any λ d => deq d a) else none
 | _, _, _ => none
noncomputable def ints? : List DV -> Option (List Int)
 | [] => some []
 | .int i :: r => (ints? r).map (i :: ·)
 | _ => none
noncomputable def minI : Int -> List Int -> Int
 | m, [] => m
 | m, x :: r => minI (if x < m then x else m) r
noncomputable def maxI : Int -> List Int -> Int
 | m, [] => m
 | m, x :: r => maxI (if m < x then x else m) r
noncomputable def insI (x : Int) : List Int -> List Int
 | [] => [x]
 | y :: r => if x < y then x :: y :: r else y :: insI x r
noncomputable def q3B : List Int -> List Int
 | [] => []
 | x :: r => insI x (q3B r)
noncomputable def dk (σ : List Int) (k : Int) : List Int := if k ∈ σ then σ else σ ++ [k]
noncomputable def lenD : List (DV × Cl) -> Option Re
 | [(.lst ds, _)] => some (.ok (.int ds.length) .strong)
 | [(.tup ds, _)] => some (.ok (.int ds.length) .strong)
 | [(.scr ns, _)] => some (.ok (.int ns.length) .strong)
 | [(.str z, _)] => some (.ok (.int z.length) .strong)
 | _ => none
noncomputable def minD : List (DV × Cl) -> Option Re
 | [(.int i, _), (.int j, _)] => some (.ok (.int (if j < i then j else i)) .strong)
 | [(.lst ds, _)] => match ints? ds with
  | some (n :: r) => some (.ok (.int (minI n r)) .strong)
  | _ => none
 | [(.tup ds, _)] => match ints? ds with
  | some (n :: r) => some (.ok (.int (minI n r)) .strong)
  | _ => none
 | _ => none
noncomputable def pairs? : List DV -> Option (List (Int × Int))
 | [] => some []
 | .tup [.int a, .int b] :: r => (pairs? r).map ((a, b) :: ·)
 | _ => none
noncomputable def ltP (p q : Int × Int) : Bool := decide (p.1 < q.1) || (p.1 == q.1 && decide (p.2 < q.2))
noncomputable def q1E : List (Int × Int) -> Bool
 | [] => true
 | p :: r => match r with
  | [] => true
  | q :: _ => ltP p q && q1E r
noncomputable def q3D : List (DV × Cl) -> Option Re
 | [(.lst ds, c)] => match pairs? ds with
  | some ps => if q1E ps = true /\ ps.length < 64 then some (.ok (.lst ds) (Cl.anew c c)) else none
  | none => none
 | _ => none
noncomputable def maxD : List (DV × Cl) -> Option Re
 | [(.int i, _), (.int j, _)] => some (.ok (.int (if j > i then j else i)) .strong)
 | [(.lst ds, _)] => match ints? ds with
  | some (n :: r) => some (.ok (.int (maxI n r)) .strong)
  | _ => none
 | _ => none
noncomputable def z1r : List (DV × Cl) -> Option Re
 | [(.lst ds, _)] => match ints? ds with
  | some ns => if ns.length < 4000 /\ (ns.foldl dk []).length < 64 then some (.ok (.lst ((q3B (ns.foldl dk [])).map DV.int)) .fresh) else none
  | none => none
 | _ => none
noncomputable def intD : List (DV × Cl) -> Option Re
 | [(.int i, _)] => some (.ok (.int i) .strong)
 | [(.bl b, _)] => some (.ok (.int (if b then 1 else 0)) .strong)
 | _ => none
noncomputable def q8o : List (DV × Cl) -> Option Re
 | [(.scr ns, _)] => some (.ok (.lst (ns.map DV.int)) .fresh)
 | [(.lst ds, c)] => some (.ok (.lst ds) (Cl.anew c c))
 | [(.tup ds, c)] => some (.ok (.lst ds) (Cl.anew c c))
 | _ => none
noncomputable def q4X : List (DV × Cl) -> Option Re
 | [(.lst ds, c)] => some (.ok (.tup ds) c.item)
 | [(.tup ds, c)] => some (.ok (.tup ds) c)
 | _ => none
noncomputable def biD (f : Bi) (l : List (DV × Cl)) : Option Re := match f with
 | .len => lenD l
 | .min => minD l
 | .max => maxD l
 | .int => intD l
 | .list => q8o l
 | .tuple => q4X l
 | .sset => z1r l
 | .sorted => q3D l
noncomputable def biOk : Bi -> Bool
 | .len => true | .min => true | .max => true | .int => true | .list => true | .tuple => true | .sset => true | .sorted => true
structure Gs where
 dcs : List (Str × List (Str × Str)) := []
 con : List (Str × DV)
 cls : List (Str × List Str)
 dfl : List (Nat × List DV) := []
 kws : List (Nat × Str) := []
noncomputable def q1J (G : Gs) (c c' : Str) : Bool := c == c' || ((G.cls.lookup c).getD []).contains c'
noncomputable def isxD (G : Gs) (d : DV) (t : Str) : Option Bool := match d with
 | .exc c => if (G.cls.lookup c).isSome then some (q1J G c t) else none
 | _ => none
noncomputable def tyOf : DV -> List Str
 | .non => ["NoneType"]
 | .bl _ => ["bool", "int"]
 | .int _ => ["int"]
 | .str _ => ["str"]
 | .tup _ => ["tuple"]
 | .lst _ => ["list"]
 | .dct _ _ => ["dict"]
 | _ => []
noncomputable def q1g : List Str := ["int", "bool", "str", "list", "tuple", "dict"]
noncomputable def isiD (G : Gs) (d : DV) (ts : List Str) : Option Bool := match d with
 | .scr _ => none
 | .exc _ => none
 | .fn _ => none
 | d => match ts with
  | [t] => if q1g.contains t then some ((tyOf d).contains t) else none
  | [t, u] => if q1g.contains t && q1g.contains u then some ((tyOf d).contains t || (tyOf d).contains u) else none
  | _ => none
noncomputable def upTo (lo : Int) (n : Nat) : List DV := (List.range n).map λ (i : Nat) => DV.int (lo + i)
noncomputable def q5a (lo : Int) (n : Nat) : List DV := (List.range n).map λ (i : Nat) => DV.int (lo - i)
noncomputable def q1k (i : Int) : Bool := decide (-(2 ^ 62) <= i) && decide (i < 2 ^ 62)
noncomputable def q3T (y : DV) : List DV -> Option Nat
 | [] => none
 | d :: r => if deq d y then some 0 else (q3T y r).map (· + 1)
noncomputable def seqB : DV -> Bool
 | .lst _ => true | .tup _ => true | _ => false
noncomputable def idxD (x y : DV) : Option DV := match x with
 | .lst ds => if y.plain 60 && DV.plains 60 ds && decide (ds.length <= mostLen) then (q3T y ds).map λ (j : Nat) => DV.int (j : Int) else none
 | .tup ds => if y.plain 60 && DV.plains 60 ds && decide (ds.length <= mostLen) then (q3T y ds).map λ (j : Nat) => DV.int (j : Int) else none
 | _ => none
noncomputable def rngD (l : List (DV × Cl)) : Option (List DV) := match l with
 | [(.int j, _)] => if q1k j && decide (j <= mostLen) then some (upTo 0 j.toNat) else none
 | [(.int i, _), (.int j, _)] => if q1k i && q1k j && decide (j - i <= mostLen) then some (upTo i (j - i).toNat) else none
 | [(.int i, _), (.int j, _), (.int k, _)] => if q1k i && q1k j && decide (i - j <= mostLen) && decide (k = -1) then some (q5a i (i - j).toNat) else none
 | _ => none
noncomputable def q9f : DV -> Option (Bool × List DV)
 | .lst ds => some (false, ds)
 | .tup ds => some (true, ds)
 | _ => none
noncomputable def seqD : DV -> Option (List DV)
 | .scr ns => some (ns.map DV.int)
 | .lst ds => some ds
 | .tup ds => some ds
 | _ => none
noncomputable def q5c (δ : List Sv) : List Nat -> List DV -> Option (List Sv)
 | [], [] => some δ
 | i :: is, d :: ds => q5c (δ.set i (.val d)) is ds
 | _, _ => none
noncomputable def Tg.bind (tg : Tg) (d : DV) (δ : List Sv) : Option (List Sv) := match tg with
 | .one i => some (δ.set i (.val d))
 | .many is => match d with
  | .tup ds => q5c δ is ds
  | _ => none
noncomputable def Sv.plain : Sv -> Sv
 | .ot _ => .no
 | .o2 _ => .no
 | s => s
noncomputable def q0s (fr : List (Option Nat)) (δ : List Sv) : List Sv := fr.map λ o => match o with
 | some i => (δ.getD i .no).plain
 | none => .no
inductive Rc where
 | skip | item (d : DV)
noncomputable def q0E (g : DV -> Option Rc) : List DV -> Option (List DV)
 | [] => some []
 | d :: r => match g d with
  | none => none
  | some .skip => q0E g r
  | some (.item x) => match q0E g r with
   | none => none
   | some xs => some (x :: xs)
noncomputable def q1x (r : Option (List DV)) : Option Re := match r with
 | none => none
 | some xs => some (.ok (.lst xs) .fresh)
noncomputable def q2t (r : Option (List DV)) : Option Re := match r with
 | none => none
 | some xs => some (.ok (.lst xs) .weak)
noncomputable def Rc.of (r : Option Re) : Option Rc := match r with
 | some (.ok d c) => if stro d c then some (.item d) else none
 | _ => none
noncomputable def Rc.test (t : Option Rt) (r : Option Rc) : Option Rc := match t with
 | some (.ok true) => r
 | some (.ok false) => some .skip
 | _ => none
inductive Ri where
 | ok (ds : List DV) (c : Cl) | ex (c : Str)
noncomputable def Ri.thn (r : Option Ri) (k : List DV -> Cl -> Option Re) : Option Re := match r with
 | none => none
 | some (.ex c) => some (.ex c)
 | some (.ok ds c) => k ds c
noncomputable def Re.thnI (r : Option Re) (k : DV -> Cl -> Option Ri) : Option Ri := match r with
 | none => none
 | some (.ex c) => some (.ex c)
 | some (.ok d c) => k d c
noncomputable def z7K (d : DV) (c : Cl) : Option Ri := (seqD d).map λ ds => .ok ds c
noncomputable def q3v (F : Nat -> List DV -> Option Ou) (f : Nat) (l : List (DV × Cl)) : Option Re := match F f (l.map (·.1)) with
 | none => none
 | some (.x c) => some (.ex c)
 | some (.t d) => some (.ok d (if l.all λ p => p.2 == .strong || p.2 == .fresh then (match d with | .lst _ => .fresh | _ => .ft) else .weak))
 | some (.v d fr) => some (.ok d (if l.all λ p => p.2 == .strong || p.2 == .fresh then (if fr then .fresh else .strong) else .weak))
noncomputable def andD (x : DV) (c : Cl) (r : Option Re) : Option Re := match q2z x with
 | none => none
 | some true => r
 | some false => some (.ok x c)
noncomputable def orD (x : DV) (c : Cl) (r : Option Re) : Option Re := match q2z x with
 | none => none
 | some true => some (.ok x c)
 | some false => r
noncomputable def tstD (r : Option Re) : Option Rt := Re.thnT r λ x _ => (q2z x).map Rt.ok
noncomputable def q0L (r : Option Re) : Option Ri := Re.thnI r λ x c => z7K x c
mutual
noncomputable def evE (G : Gs) (F : Nat -> List DV -> Option Ou) : ME -> List Sv -> Option Re
 | .var i, δ => match δ[i]? with
  | some (.val d) => some (.ok d .strong)
  | some (.own d) => some (.ok d .top)
  | some (.ot d) => some (.ok d .weak)
  | some (.o2 d) => some (.ok d .weak)
  | _ => none
 | .int i, _ => some (.ok (.int i) .strong)
 | .bl i, _ => some (.ok (.bl i) .strong)
 | .str i, _ => some (.ok (.str i) .strong)
 | .non, _ => some (.ok .non .strong)
 | .glb x, _ => (G.con.lookup x).map λ d => .ok d .strong
 | .bin op a b, δ => Re.thn (evE G F a δ) λ x cx => Re.thn (evE G F b δ) λ y cy => binD op x y cx cy
 | .not a, δ => Re.thn (evE G F a δ) λ x _ => (q2z x).map λ k => .ok (.bl (!k)) .strong
 | .cmp op a b, δ => Re.thn (evE G F a δ) λ x _ => Re.thn (evE G F b δ) λ y _ => (cmpD op x y).map λ k => .ok (.bl k) .strong
 | .and es, δ => q2K G F es δ
 | .or es, δ => evOr G F es δ
 | .ite c a b, δ => Rt.thn (tstD (evE G F c δ)) λ k => if k then evE G F a δ else evE G F b δ
 | .lst es, δ => Rs.thn (evEs G F es δ) λ l => if l.length <= mostLen then some (.ok (.lst (l.map (·.1))) (if stros l then .fresh else .weak)) else none
 | .tup es, δ => Rs.thn (evEs G F es δ) λ l => if l.length <= mostLen then some (.ok (.tup (l.map (·.1))) (if stros l then .strong else .weak)) else none
 | .ix a b, δ => Re.thn (evE G F a δ) λ x cx => Re.thn (evE G F b δ) λ y _ => (ixD x y).map λ d => .ok d cx.item
 | .sl a lo hi, δ => Re.thn (evE G F a δ) λ x cx => Re.thn (evE G F lo δ) λ l _ => match l with
  | .int l => Re.thn (evE G F hi δ) λ h _ => (match h with
   | .int h => (slD x (some l) (some h)).map λ d => .ok d (slCl x cx)
   | _ => none)
  | _ => none
 | .slf a lo, δ => Re.thn (evE G F a δ) λ x cx => Re.thn (evE G F lo δ) λ l _ => match l with
  | .int l => (slD x (some l) none).map λ d => .ok d (slCl x cx)
  | _ => none
 | .slt a hi, δ => Re.thn (evE G F a δ) λ x cx => Re.thn (evE G F hi δ) λ h _ => match h with
  | .int h => (slD x none (some h)).map λ d => .ok d (slCl x cx)
  | _ => none
 | .call f es, δ => Rs.thn (evEs G F es δ) λ l => q3v F f l
 | .bi f es, δ => if biOk f then Rs.thn (evEs G F es δ) λ l => biD f l else none
 | .isi a ts, δ => Re.thn (evE G F a δ) λ x _ => (isiD G x ts).map λ k => .ok (.bl k) .strong
 | .isx a t, δ => Re.thn (evE G F a δ) λ x _ => (isxD G x t).map λ k => .ok (.bl k) .strong
 | .comp elt tg it fr, δ => Ri.thn (q0L (evE G F it δ)) λ ds c => if c = .weak \/ mostLen < ds.length then (if c = .weak /\ ds.length <= mostLen then q2t (q0E (λ d => (tg.bind d (q0s fr [])).bind λ δ' => Rc.of (evE G F elt δ')) ds) else none) else q1x (q0E (λ d => (tg.bind d (q0s fr δ)).bind λ δ' => Rc.of (evE G F elt δ')) ds)
 | .compi elt tg it cd fr, δ => Ri.thn (q0L (evE G F it δ)) λ ds c => if c = .weak \/ mostLen < ds.length then none else q1x (q0E (λ d => (tg.bind d (q0s fr δ)).bind λ δ' => Rc.test (tstD (evE G F cd δ')) (Rc.of (evE G F elt δ'))) ds)
 | .idx a b, δ => Re.thn (evE G F a δ) λ x _ => if seqB x then Re.thn (evE G F b δ) λ y _ => (idxD x y).map λ d => .ok d .strong else none
 | .rng es, δ => Rs.thn (evEs G F es δ) λ l => (rngD l).map λ ds => .ok (.lst ds) .fresh
noncomputable def evEs (G : Gs) (F : Nat -> List DV -> Option Ou) : List ME -> List Sv -> Option Rs
 | [], _ => some (.ok [])
 | e :: es, δ => match evE G F e δ with
  | none => none
  | some (.ex c) => some (.ex c)
  | some (.ok d c) => match evEs G F es δ with
   | none => none
   | some (.ex c) => some (.ex c)
   | some (.ok l) => some (.ok ((d, c) :: l))
noncomputable def q2K (G : Gs) (F : Nat -> List DV -> Option Ou) : List ME -> List Sv -> Option Re
 | [], _ => none
 | e :: es, δ => if es.isEmpty then evE G F e δ else Re.thn (evE G F e δ) λ x c => andD x c (q2K G F es δ)
noncomputable def evOr (G : Gs) (F : Nat -> List DV -> Option Ou) : List ME -> List Sv -> Option Re
 | [], _ => none
 | e :: es, δ => if es.isEmpty then evE G F e δ else Re.thn (evE G F e δ) λ x c => orD x c (evOr G F es δ)
end
noncomputable def Re.thnS (δ : List Sv) (r : Option Re) (k : DV -> Cl -> Option Out) : Option Out := match r with
 | none => none
 | some (.ex c) => some (.ex c δ)
 | some (.ok d c) => k d c
noncomputable def Rt.thnS (δ : List Sv) (r : Option Rt) (k : Bool -> Option Out) : Option Out := match r with
 | none => none
 | some (.ex c) => some (.ex c δ)
 | some (.ok b) => k b
noncomputable def Ri.thnS (δ : List Sv) (r : Option Ri) (k : List DV -> Cl -> Option Out) : Option Out := match r with
 | none => none
 | some (.ex c) => some (.ex c δ)
 | some (.ok ds c) => k ds c
noncomputable def q1R (tg : Tg) (body : List Sv -> Option Out) : List DV -> List Sv -> Option Out
 | [], δ => some (.nx δ)
 | d :: r, δ => match tg.bind d δ with
  | none => none
  | some δ1 => match body δ1 with
   | some (.nx δ2) => q1R tg body r δ2
   | o => o
noncomputable def frD : DV -> Cl -> Bool
 | .lst _, .fresh => true | .lst _, .top => true
 | _, _ => false
noncomputable def noOt (i : Nat) (δ : List Sv) : Bool := (List.range δ.length).all λ j => j == i || (match δ[j]? with | some (.ot _) => false | some (.o2 _) => false | _ => true)
noncomputable def q4E (i : Nat) (δ : List Sv) (d : DV) (c : Cl) : Option Out := match c with
 | .fresh => some (.nx (δ.set i (.own d)))
 | .ft => if noOt i δ then some (.nx (δ.set i (.ot d))) else none
 | _ => none
noncomputable def retD (d : DV) (c : Cl) : Out := match c with
 | .ft => .rtt d
 | _ => .rt d (frD d c)
noncomputable def tryD (G : Gs) (c : Str) (ie ic : Nat) (r : Option Out) : Option Out := match r with
 | some (.ex c' δ') => if (G.cls.lookup c').isSome /\ q1J G c' c /\ ie < δ'.length /\ ie ≠ ic then some (.nx ((δ'.set ic (.val (.exc c'))).set ie .no)) else none
 | o => o
mutual
noncomputable def evS (G : Gs) (F : Nat -> List DV -> Option Ou) (fu : Nat) : MS -> List Sv -> Option Out
 | .set i own e, δ => Re.thnS δ (evE G F e δ) λ d c => if own then q4E i δ d c else (if stro d c then some (.nx (δ.set i (.val d))) else none)
 | .app i e, δ => match δ[i]? with
  | some (.own (.lst ds)) => Re.thnS δ (evE G F e δ) λ d c => if stro d c /\ ds.length < mostLen then some (.nx (δ.set i (.own (.lst (ds ++ [d]))))) else none
  | _ => none
 | .ext i e, δ => match δ[i]? with
  | some (.own (.lst ds)) => Re.thnS δ (evE G F e δ) λ d c => if c = .strong \/ c = .fresh then (match q9f d with
   | some (_, ys) => if ds.length + ys.length <= mostLen then some (.nx (δ.set i (.own (.lst (ds ++ ys))))) else none
   | none => none) else none
  | _ => none
 | .seti i k e, δ => match δ[i]? with
  | some (.own (.lst ds)) => Re.thnS δ (evE G F e δ) λ d c => Re.thnS δ (evE G F k δ) λ k _ => (match k with
   | .int k => (match q2a ds.length k with
    | some j => if stro d c then some (.nx (δ.set i (.own (.lst (ds.set j d))))) else none
    | none => none)
   | _ => none)
  | _ => none
 | .exp e, δ => Re.thnS δ (evE G F e δ) λ _ _ => some (.nx δ)
 | .ret e, δ => Re.thnS δ (evE G F e δ) λ d c => some (retD d c)
 | .iff c a b, δ => Rt.thnS δ (tstD (evE G F c δ)) λ k => if k then evSs G F fu a δ else evSs G F fu b δ
 | .fo tg it body, δ => Ri.thnS δ (q0L (evE G F it δ)) λ ds c => if c = .strong \/ c = .fresh then q1R tg (λ δ' => evSs G F fu body δ') ds δ else none
 | .rse c e, δ => if (G.cls.lookup c).isSome then Re.thnS δ (evE G F e δ) λ _ _ => some (.ex c δ) else none
 | .tryc body c ie ic, δ => tryD G c ie ic (evSs G F fu body δ)
 | .frz i, δ => match δ[i]? with
  | some (.own d) => some (.nx (δ.set i (.val d)))
  | _ => some (.nx δ)
noncomputable def evSs (G : Gs) (F : Nat -> List DV -> Option Ou) (fu : Nat) : List MS -> List Sv -> Option Out
 | [], δ => some (.nx δ)
 | s :: r, δ => match evS G F fu s δ with
  | some (.nx δ') => evSs G F fu r δ'
  | o => o
end
noncomputable def q0q (n : Nat) (ds : List DV) : List Sv := ds.map Sv.val ++ List.replicate (n - ds.length) .no
noncomputable def Ou.of (o : Option Out) : Option Ou := match o with
 | some (.nx _) => some (.v .non false)
 | some (.rt d fr) => some (.v d fr)
 | some (.rtt d) => some (.t d)
 | some (.ex c _) => some (.x c)
 | none => none
noncomputable def run (G : Gs) (T : List FD) (fu : Nat) : Nat -> Nat -> List DV -> Option Ou
 | 0, _, _ => none
 | k + 1, f, ds => match T[f]? with
  | none => none
  | some fd => if ds.length = fd.np then Ou.of (evSs G (run G T fu k) fu fd.body (q0q fd.n ds)) else none
end L2
end
section
namespace L2
open PySem
noncomputable def Rise (xs : Array Nat) : Prop := ∀ (i k x y : Nat), i < k -> xs[i]? = some x -> xs[k]? = some y -> x < y
theorem q8d {xs : Array Nat} {j : Nat} (hr : Rise xs) : ∀ (fuel lo hi : Nat), lo <= hi -> hi <= xs.size -> hi - lo <= fuel ->
  (∀ i x, i < lo -> xs[i]? = some x -> x < j) -> (∀ i x, hi <= i -> xs[i]? = some x -> j <= x) ->
  (∀ i x, i < SetTable.below.go xs j fuel lo hi -> xs[i]? = some x -> x < j) /\ (∀ i x, SetTable.below.go xs j fuel lo hi <= i -> xs[i]? = some x -> j <= x) := by
 intro fuel
 induction fuel with
 | zero =>
  intro lo hi h1 h2 h3 h4 h5
  have : lo = hi := by omega
  subst this
  exact ⟨h4, h5⟩
 | succ n ih =>
  intro lo hi h1 h2 h3 h4 h5
  unfold SetTable.below.go
  by_cases hlt : lo < hi
  ·rw [if_pos hlt]
   have hm : (lo + hi) / 2 < hi := by omega
   have hm2 : lo <= (lo + hi) / 2 := by omega
   have hms : (lo + hi) / 2 < xs.size := by omega
   have hg : xs[(lo + hi) / 2]? = some xs[(lo + hi) / 2] := Array.getElem?_eq_getElem hms
   have hgd : xs.getD ((lo + hi) / 2) j = xs[(lo + hi) / 2] := by
    rw [Array.getD_eq_getD_getElem?, hg]; rfl
   dsimp only
   rw [hgd]
   by_cases hc : xs[(lo + hi) / 2] < j
   ·rw [if_pos hc]
    refine ih _ _ (by omega) h2 (by omega) (λ i x hi' hx => ?_) h5
    rcases Nat.lt_or_ge i ((lo + hi) / 2) with q | q
    ·exact Nat.lt_trans (hr i _ x _ q hx hg) hc
    ·have e : i = (lo + hi) / 2 := by omega
     subst e
     rw [hg] at hx
     cases hx
     exact hc
   ·rw [if_neg hc]
    refine ih _ _ hm2 (by omega) (by omega) h4 λ i x hi' hx => ?_
    rcases Nat.lt_or_ge ((lo + hi) / 2) i with q | q
    ·exact Nat.le_trans (Nat.le_of_not_lt hc) (Nat.le_of_lt (hr _ i _ x q hg hx))
    ·have e : i = (lo + hi) / 2 := by omega
     subst e
     rw [hg] at hx
     cases hx
     exact Nat.le_of_not_lt hc
  ·rw [if_neg hlt]
   have : lo = hi := by omega
   subst this
   exact ⟨h4, h5⟩
theorem q5s {xs : Array Nat} (hr : Rise xs) {j i x : Nat} (h : i < SetTable.below xs j) (hx : xs[i]? = some x) : x < j :=
 (q8d (j := j) hr xs.size 0 xs.size (Nat.zero_le _) (Nat.le_refl _) (by omega) (λ i x h => by omega) λ i x h hx => by
  rw [Array.getElem?_eq_none h] at hx; cases hx).1 i x h hx
theorem q4f {xs : Array Nat} (hr : Rise xs) {j i x : Nat} (h : SetTable.below xs j <= i) (hx : xs[i]? = some x) : j <= x :=
 (q8d (j := j) hr xs.size 0 xs.size (Nat.zero_le _) (Nat.le_refl _) (by omega) (λ i x h => by omega) λ i x h hx => by
  rw [Array.getElem?_eq_none h] at hx; cases hx).2 i x h hx
theorem q6P {xs : Array Nat} {j : Nat} : ∀ (fuel lo hi : Nat), lo <= hi -> SetTable.below.go xs j fuel lo hi <= hi := by
 intro fuel
 induction fuel with
 | zero => intro lo hi h; exact h
 | succ n ih =>
  intro lo hi h
  unfold SetTable.below.go
  dsimp only
  split
  ·split
   ·exact ih _ _ (by omega)
   ·exact Nat.le_trans (ih _ _ (by omega)) (by omega)
  ·exact h
theorem q7K {xs : Array Nat} {j : Nat} : SetTable.below xs j <= xs.size := q6P _ _ _ (Nat.zero_le _)
theorem q8J {xs : Array Nat} (hr : Rise xs) {i x : Nat} (hx : xs[i]? = some x) : SetTable.below xs (x + 1) = i + 1 := by
 have hi : i < xs.size := by
  rcases Nat.lt_or_ge i xs.size with h | h
  ·exact h
  ·rw [Array.getElem?_eq_none h] at hx; cases hx
 rcases Nat.lt_trichotomy (SetTable.below xs (x + 1)) (i + 1) with h | h | h
 ·have := q4f hr (j := x + 1) (Nat.le_of_lt_succ h) hx
  omega
 ·exact h
 ·have h2 : SetTable.below xs (x + 1) <= xs.size := q7K
  have h3 : i + 1 < xs.size := by omega
  have hy : xs[i + 1]? = some xs[i + 1] := Array.getElem?_eq_getElem h3
  have a := q5s hr (j := x + 1) h hy
  have b := hr i (i + 1) x _ (Nat.lt_succ_self _) hx hy
  omega
theorem q8u {xs : Array Nat} (hr : Rise xs) : SetTable.below xs 0 = 0 := by
 rcases Nat.eq_zero_or_pos (SetTable.below xs 0) with h | h
 ·exact h
 ·have h2 : SetTable.below xs 0 <= xs.size := q7K
  have h3 : 0 < xs.size := by omega
  have hy : xs[0]? = some xs[0] := Array.getElem?_eq_getElem h3
  have a := q5s hr (j := 0) h hy
  omega
theorem Rise.empty : Rise #[] := λ i k x y _ hx => by simp at hx
theorem Rise.range (n : Nat) : Rise (Array.range n) := λ i k x y h hx hy => by
 rw [Array.getElem?_range] at hx hy
 split at hx
 ·split at hy
  ·cases hx; cases hy; exact h
  ·cases hy
 ·cases hx
theorem q6e {l : List Nat} (h : l.Pairwise (· < ·)) : Rise l.toArray := λ i k x y hik hx hy => by
 have hx' : l[i]? = some x := by simpa using hx
 have hy' : l[k]? = some y := by simpa using hy
 obtain ⟨hi, ei⟩ := List.getElem?_eq_some_iff.mp hx'
 obtain ⟨hk, ek⟩ := List.getElem?_eq_some_iff.mp hy'
 rw [<- ei, <- ek]
 exact List.pairwise_iff_getElem.mp h i k hi hk hik
theorem z4l {xs : Array Nat} (h : Rise xs) : xs.toList.Pairwise (· < ·) := by
 refine List.pairwise_iff_getElem.mpr λ i k hi hk hik => ?_
 exact h i k _ _ hik (by rw [<- Array.getElem?_toList]; exact List.getElem?_eq_getElem hi) (by rw [<- Array.getElem?_toList]; exact List.getElem?_eq_getElem hk)
structure Tab (t : SetTable) (b : Bool) : Prop where
 rise : Rise t.place
 dum : t.dummies = #[]
 led : t.led = b
theorem Tab.fresh (b : Bool) : Tab (SetTable.fresh 0 0 b) b := ⟨Rise.empty, rfl, rfl⟩
theorem Tab.standIn {t : SetTable} {b : Bool} (h : Tab t b) (n : Nat) : Tab (t.standIn n) b := ⟨Rise.range n, rfl, h.led⟩
theorem q6r (j : Nat) : SetTable.has #[] j = false := by
 unfold SetTable.has; simp
theorem z1O {t : SetTable} {b : Bool} (h : Tab t b) (f : Nat -> Int) (z : Int) : ∀ (fuel : Nat) (p : SetTable.Probe) (j : Nat) (d : Option Nat), p.dummy = none -> SetTable.probe.go t f z fuel p = some (.empty j d) -> d = none /\ t.slot j = .empty := by
 intro fuel
 induction fuel with
 | zero => intro p j d hp e; cases e
 | succ n ih =>
  intro p j d hp e
  unfold SetTable.probe.go at e
  cases hs : t.slot p.j with
  | empty => rw [hs] at e; cases e; exact ⟨hp, hs⟩
  | dummy =>
   unfold SetTable.slot at hs
   rw [h.dum, q6r] at hs
   dsimp only at hs
   split at hs
   ·cases hs
   ·cases hs
  | live i =>
   rw [hs] at e
   dsimp only at e
   split at e
   ·cases e
   ·refine ih _ j d ?_ e
    unfold SetTable.advance
    split
    ·exact hp
    ·exact hp
theorem q4N {t : SetTable} {b : Bool} (h : Tab t b) {z : Int} {j : Nat} {w : Bool} (e : t.freeSlot z = some (j, w)) : t.slot j = .empty := by
 unfold SetTable.freeSlot at e
 split at e
 ·rename_i j' d hp
  obtain ⟨hd, hs⟩ := z1O h _ _ _ _ _ _ rfl hp
  subst hd
  cases e
  exact hs
 ·cases e
theorem Tab.put {t : SetTable} {b : Bool} (h : Tab t b) {j : Nat} (hs : t.slot j = .empty) : Tab (t.put j).1 b := by
 have hn : t.place[SetTable.below t.place j]? ≠ some j := λ z => by
  unfold SetTable.slot at hs
  dsimp only at hs
  rw [z] at hs
  simp at hs
 refine ⟨?_, ?_, h.led⟩
 ·show Rise (SetTable.insertAt t.place (SetTable.below t.place j) j)
  have e : (SetTable.insertAt t.place (SetTable.below t.place j) j).toList = _ := SetTable.toList_insertAt _ _ _
  have pw := z4l h.rise
  have : (SetTable.insertAt t.place (SetTable.below t.place j) j).toList.Pairwise (· < ·) := by
   rw [e, List.pairwise_append]
   refine ⟨pw.sublist (List.take_sublist _ _), List.pairwise_cons.mpr ⟨λ y hy => ?_, pw.sublist (List.drop_sublist _ _)⟩, λ x hx y hy => ?_⟩
   ·obtain ⟨i, hi⟩ := List.mem_iff_getElem?.mp hy
    rw [List.getElem?_drop, Array.getElem?_toList] at hi
    rcases Nat.lt_or_eq_of_le (q4f h.rise (j := j) (Nat.le_add_right _ _) hi) with q | q
    ·exact q
    ·exfalso
     subst q
     rcases Nat.eq_zero_or_pos i with z | z
     ·subst z; exact hn hi
     ·have hb : SetTable.below t.place j < t.place.size := by
       rcases Nat.lt_or_ge (SetTable.below t.place j + i) t.place.size with q | q
       ·omega
       ·rw [Array.getElem?_eq_none q] at hi; cases hi
      have hg : t.place[SetTable.below t.place j]? = some t.place[SetTable.below t.place j] := Array.getElem?_eq_getElem hb
      have a := q4f h.rise (j := j) (Nat.le_refl _) hg
      have c := h.rise _ _ _ _ (show SetTable.below t.place j < SetTable.below t.place j + i by omega) hg hi
      omega
   ·have hx' : x < j := by
     obtain ⟨i, hi⟩ := List.mem_iff_getElem?.mp hx
     rw [List.getElem?_take] at hi
     split at hi
     ·rw [Array.getElem?_toList] at hi
      exact q5s h.rise (by assumption) hi
     ·cases hi
    rcases List.mem_cons.mp hy with q | q
    ·rw [q]; exact hx'
    ·obtain ⟨i, hi⟩ := List.mem_iff_getElem?.mp q
     rw [List.getElem?_drop, Array.getElem?_toList] at hi
     exact Nat.lt_of_lt_of_le hx' (q4f h.rise (j := j) (Nat.le_add_right _ _) hi)
  have r := q6e this
  rwa [Array.toArray_toList] at r
 ·show (if SetTable.has t.dummies j then _ else t.dummies) = #[]
  rw [h.dum, q6r]
  rfl
theorem Tab.orStandIn {t : SetTable} {b : Bool} (h : Tab t b) (n : Nat) : Tab (t.orStandIn n) b := by
 unfold SetTable.orStandIn
 split
 ·exact h
 ·exact h.standIn n
theorem Tab.layNew {t : SetTable} {b : Bool} (h : Tab t b) (es : Array (Int × Value)) (z : Int) (x : Value) : Tab (layNew t es z x).2.1 b := by
 unfold PySem.layNew
 split
 ·rename_i j w e
  exact (h.put (q4N h e)).orStandIn _
 ·exact h.standIn _
theorem q1j {f : Nat -> Option Nat} : ∀ {l : List Nat}, l.Pairwise (· < ·) -> ((l.filterMap λ j => (f j).map (j, ·)).map (·.1)).Pairwise (· < ·)
 | [], _ => .nil
 | a :: l, h => by
  obtain ⟨h1, h2⟩ := List.pairwise_cons.mp h
  have ih := q1j (f := f) h2
  rw [List.filterMap_cons]
  cases e : f a with
  | none => exact ih
  | some c =>
   refine List.pairwise_cons.mpr ⟨λ y hy => ?_, ih⟩
   obtain ⟨p, hp, rfl⟩ := List.mem_map.mp hy
   obtain ⟨j, hj, e2⟩ := List.mem_filterMap.mp hp
   cases e3 : f j with
   | none => rw [e3] at e2; cases e2
   | some c2 => rw [e3] at e2; cases e2; exact h1 j hj
theorem Tab.relayAll {t : SetTable} {b : Bool} (h : Tab t b) (es : Array (Int × Value)) (n : Nat) : Tab (relayAll t es n).2.1 b := by
 unfold PySem.relayAll
 split
 ·rename_i t' order e
  dsimp only
  split
  ·show Tab t' b
   unfold SetTable.relaid SetTable.laid at e
   cases hl : SetTable.layClean (SetTable.sizeAbove n - 1) (es.map (·.1)) with
   | none => rw [hl] at e; cases e
   | some owner =>
    rw [hl] at e
    cases e
    exact ⟨q6e (q1j (List.pairwise_lt_range)), rfl, h.led⟩
  ·exact h.standIn _
 ·exact h.standIn _
theorem q3E {α : Type} {x : α} : ∀ {l : List α} {i : Nat} (h : i < l.length), l[i] = x -> (x :: l.eraseIdx i).Perm l
 | [], i, h, _ => by cases h
 | a :: l, 0, _, e => by
  have e : a = x := e
  subst e
  exact .rfl
 | a :: l, i + 1, h, e => by
  rw [List.eraseIdx_cons_succ]
  exact (List.Perm.swap a x _).trans (List.Perm.cons a (q3E (l := l) (i := i) (by simpa using h) (by simpa using e)))
theorem q6t {α : Type} (next : Nat -> Nat) : ∀ (fuel k : Nat) (left : List α) (out : Array α), left.length <= fuel -> (pickOrder.go next fuel k left out).toList.Perm (out.toList ++ left) := by
 intro fuel
 induction fuel with
 | zero =>
  intro k left out h
  have : left = [] := List.length_eq_zero_iff.mp (by omega)
  subst this
  unfold pickOrder.go
  rw [List.append_nil]
 | succ n ih =>
  intro k left out h
  unfold pickOrder.go
  cases e : left[next k % left.length]? with
  | none =>
   dsimp only
   have : left = [] := by
    cases left with
    | nil => rfl
    | cons a r =>
     have hlt : next k % (a :: r).length < (a :: r).length := Nat.mod_lt _ (by simp)
     rw [List.getElem?_eq_getElem hlt] at e
     cases e
   subst this
   rw [List.append_nil]
  | some x =>
   dsimp only
   obtain ⟨hlt, hx⟩ := List.getElem?_eq_some_iff.mp e
   have hle : (left.eraseIdx (next k % left.length)).length <= n := by
    rw [List.length_eraseIdx, if_pos hlt]; omega
   refine (ih _ _ _ hle).trans ?_
   rw [Array.toList_push, List.append_assoc]
   refine List.Perm.append_left _ ?_
   exact q3E hlt hx
theorem q2N {α : Type} (next : Nat -> Nat) (xs : Array α) : (pickOrder next xs).toList.Perm xs.toList := by
 unfold pickOrder
 exact (q6t next xs.size 0 xs.toList #[] (by simp)).trans (by simp)
end L2
end
section
namespace L2
open PySem
noncomputable def q3s : Value -> Int
 | .int n _ => n
 | _ => 0
noncomputable def q0K (w : World) : Bool := w.params.followText "set-order"
noncomputable def SetI (prog : Program) (w : World) (h : Heap) (a : Addr) (ks : List Int) : Prop :=
 ∃ o es ep t, h.get? a = some o /\ o.ExactSet /\ o.data = .set es ep t /\ ElemsOf (intKind prog w) es.toList /\ (es.toList.map λ e => q3s e.2).Perm ks /\ es.size < scanBound /\ t.fits es.size = true /\ Tab t (!q0K w)
section
variable {prog : Program} {w : World} {A : Around} {E : Value -> Shared -> Prop} {s : Shared} {a : Addr} {ks : List Int}
theorem q7D {es : List (Int × Value)} (h : ElemsOf (intKind prog w) es) {e : Int × Value} (he : e ∈ es) : ∃ t, e.2 = .int (q3s e.2) t := by
 obtain ⟨⟨k, hk, _⟩, _⟩ := h e he
 obtain ⟨t, q⟩ := Value.isInt_shape hk
 exact ⟨t, by rw [q]; rfl⟩
theorem q9g {es : List (Int × Value)} (h : ElemsOf (intKind prog w) es) {e : Int × Value} (he : e ∈ es) (k : Int) : (intKind prog w).is k e.2 = true ↔ q3s e.2 = k := by
 obtain ⟨t, q⟩ := q7D h he
 rw [q]
 show Value.isInt k (.int (q3s e.2) t) = true ↔ _
 simp [Value.isInt, q3s]
theorem SetI.at {h h' : Heap} (x : SetI prog w h a ks) (k : ∀ o, h.get? a = some o -> h'.get? a = some o) : SetI prog w h' a ks := by
 obtain ⟨o, es, ep, t, ho, r⟩ := x
 exact ⟨o, es, ep, t, k o ho, r⟩
theorem z2s {h : Heap} {o : Obj} {es es' : Array (Int × Value)} {ep : Nat} {t t' : SetTable} (ho : h.get? a = some o) (hd : o.data = .set es ep t) :
  (h.update a (Obj.putSet es' t')).get? a = some { o with data := .set es' (ep + 1) t' } := by
 have q := Heap.get?_update_self (Obj.putSet es' t') ho (by rw [putSet_of es' t' hd]; rfl)
 rwa [putSet_of es' t' hd] at q
theorem z2V {k : Int} {tk : Tok} {Q : Option Bool -> Shared -> Prop} {o : Obj} {es : Array (Int × Value)} {ep : Nat} {t : SetTable} (ho : s.heap.get? a = some o) (hx : o.ExactSet) (hd : o.data = .set es ep t)
  (hel : ElemsOf (intKind prog w) es.toList) (hp : (es.toList.map λ e => q3s e.2).Perm ks) (hb : es.size + 1 < scanBound) (ht : Tab t (!q0K w))
  {es1 : Array (Int × Value)} {t1 : SetTable} (p1 : es1.toList.Perm (es.toList ++ [(hashInt k, Value.int k tk)])) (f1 : t1.fits es1.size = true) (g1 : Tab t1 (!q0K w)) (wd : Bool) {g : Bool -> Sem Unit}
  (hg : ∀ (b : Bool) (sA : Shared) (Q' : Unit -> Shared -> Prop), Q' () sA -> wpAny (model prog w) A (g b) Q' E sA)
  (h : ∀ h', Heap.SameBut a s.heap h' -> SetI prog w h' a (ks ++ [k]) -> Q (some true) { s with heap := h' }) :
  wpAny (model prog w) A (do
   storeSet a es1 t1
   if (!wd && t1.tooFull) = true then do
    g (relayAll t1 es1 (SetTable.grown es1.size)).2.2
    storeSet a (relayAll t1 es1 (SetTable.grown es1.size)).1 (relayAll t1 es1 (SetTable.grown es1.size)).2.1
    pure (some true)
   else pure (some true)) Q E s := by
 have z1 : es1.size = es.size + 1 := by
  have := p1.length_eq
  rw [List.length_append, Array.length_toList, Array.length_toList] at this
  exact this
 have e1 : ElemsOf (intKind prog w) es1.toList := (hel.push (intKind_is prog w k tk) rfl).perm p1
 have m1 : (es1.toList.map λ e => q3s e.2).Perm (ks ++ [k]) := by
  refine (p1.map _).trans ?_
  rw [List.map_append]
  exact hp.append_right _
 have b1 : es1.size < scanBound := by omega
 refine wpAny_bind (wpAny_storeSet_of ho hd ?_ (fits_of_scanBound b1))
 have o1 := z2s (es' := es1) (t' := t1) ho hd
 have sb := Heap.SameBut.update s.heap a (Obj.putSet es1 t1)
 split
 ·have p2 := relayAll_perm t1 es1 (SetTable.grown es1.size)
  have f2 := relayAll_fits t1 es1 (SetTable.grown es1.size)
  have g2 := g1.relayAll es1 (SetTable.grown es1.size)
  generalize relayAll t1 es1 (SetTable.grown es1.size) = R at p2 f2 g2 ⊢
  have z2 : R.1.size = es1.size := by
   have := p2.length_eq
   rwa [Array.length_toList, Array.length_toList] at this
  have b2 : R.1.size < scanBound := by omega
  refine wpAny_bind (hg _ _ _ ?_)
  refine wpAny_bind (wpAny_storeSet_of o1 rfl ?_ (fits_of_scanBound b2))
  refine wpAny_pure (h _ (sb.trans (Heap.SameBut.update _ a _)) ?_)
  exact ⟨_, R.1, _, R.2.1, z2s o1 rfl, hx, rfl, e1.perm p2, (p2.map _).trans m1, b2, f2, g2⟩
 ·refine wpAny_pure (h _ sb ?_)
  exact ⟨_, es1, _, t1, o1, hx, rfl, e1, m1, b1, f1, g1⟩
theorem z6l {k : Int} {tk : Tok} {Q : Bool -> Shared -> Prop} (hS : SetI prog w s.heap a ks) (hr : ks.length + 1 < scanBound)
  (h : ∀ h' b, Heap.SameBut a s.heap h' -> SetI prog w h' a (dk ks k) -> Q b { s with heap := h' }) :
  wpAny (model prog w) A (setAddHashed a (.int k tk) (hashInt k)) Q E s := by
 obtain ⟨o, es, ep, t, ho, hx, hd, hel, hp, hb, hf, ht⟩ := id hS
 have hz : es.size = ks.length := by
  have := hp.length_eq
  rwa [List.length_map, Array.length_toList] at this
 have hq : ∀ (b : Bool) (sA : Shared) (Q' : Unit -> Shared -> Prop), Q' () sA -> wpAny (model prog w) A (match b with | true => rule "set.scan.the-table-gave-way" | false => pure ()) Q' E sA := λ b sA Q' q => by
  cases b with
  | true => exact wpAny_rule q
  | false => exact wpAny_pure q
 unfold setAddHashed setAddHashedIn
 refine wpAny_holding (wpAny_bind (wpAny_setState_of ho hd hf ?_))
 dsimp only
 rw [byScan_of (knd := intKind prog w) (x := .int k tk) rfl hb hel, if_pos rfl]
 unfold setAddByScan
 refine wpAny_bind (wpAny_bind (wpAny_rule (wpAny_bind ?_)))
 refine wpAny_setScan_of (knd := intKind prog w) (intKind_is prog w k tk) ho hd hf hel ?_
 cases hi : es.toList.findIdx? (λ e => (intKind prog w).is k e.2) with
 | some j =>
  obtain ⟨hj, hk, _⟩ := List.findIdx?_eq_some_iff_getElem.mp hi
  have hm : k ∈ ks := hp.mem_iff.mp (List.mem_map.mpr ⟨es.toList[j], List.getElem_mem hj, (q9g hel (List.getElem_mem hj) k).mp hk⟩)
  have hd' : dk ks k = ks := by
   unfold dk
   rw [if_pos hm]
  refine wpAny_pure (wpAny_pure ?_)
  have := h s.heap false (Heap.SameBut.refl a s.heap) (by rw [hd']; exact hS)
  exact this
 | none =>
  have hm : k ∉ ks := λ z => by
   obtain ⟨e, he, q⟩ := List.mem_map.mp (hp.mem_iff.mpr z)
   have := List.findIdx?_eq_none_iff.mp hi e he
   rw [(q9g hel he k).mpr q] at this
   cases this
  have hd' : dk ks k = ks ++ [k] := by
   unfold dk
   rw [if_neg hm]
  rw [hd'] at h
  dsimp only
  have p1 := layNew_perm t es (hashInt k) (.int k tk)
  have f1 := layNew_fits t es (hashInt k) (.int k tk)
  have g1 := ht.layNew es (hashInt k) (.int k tk)
  show wpAny _ _ _ _ _ _
  change wpAny (model prog w) A (match layNew t es (hashInt k) (.int k tk) with | (es, t, wasDummy, gave) => _) _ _ _
  generalize layNew t es (hashInt k) (.int k tk) = L at p1 f1 g1 ⊢
  obtain ⟨es1, t1, wd, gv⟩ := L
  rw [Array.toList_push] at p1
  dsimp only at p1 f1 g1 ⊢
  refine wpAny_bind (hq gv _ _ ?_)
  have fin : ∀ t2 : SetTable, t2.fits es1.size = true -> Tab t2 (!q0K w) -> wpAny (model prog w) A (do
   storeSet a es1 t2
   if (!wd && t2.tooFull) = true then do
    (λ b : Bool => match b with | true => rule "set.scan.the-table-gave-way" | false => pure ()) (relayAll t2 es1 (SetTable.grown es1.size)).2.2
    storeSet a (relayAll t2 es1 (SetTable.grown es1.size)).1 (relayAll t2 es1 (SetTable.grown es1.size)).2.1
    pure (some true)
   else pure (some true)) (λ r s' => wpAny (model prog w) A (match r with | some added => pure added | none => setAddHashedIn a (.int k tk) (hashInt k) 99999) Q E s') E s := λ t2 f2 g2 =>
   z2V (k := k) (tk := tk) ho hx hd hel hp (by omega) ht p1 f2 g2 wd hq λ h' sb S' => wpAny_pure (h h' true sb S')
  split
  ·refine wpAny_bind ?_
   rw [hashByValue_scannable 8 (x := .int k tk) rfl]
   refine wpAny_pure ?_
   exact fin t1 f1 g1
  ·refine wpAny_bind (wpAny_pure ?_)
   exact fin t1 f1 g1
end
end L2
end
section
namespace L2
open PySem PySem.Spec PyProof.Rows
noncomputable def fm (val : Nat -> Int) (i : Nat) : List Int := ((List.range i).map val).foldl dk []
theorem z0H (val : Nat -> Int) (i : Nat) : fm val (i + 1) = dk (fm val i) (val i) := by
 unfold fm
 rw [List.range_succ, List.map_append, List.foldl_append]
 rfl
theorem q7N (σ : List Int) (k : Int) : (dk σ k).length <= σ.length + 1 := by
 unfold dk
 split
 ·exact Nat.le_succ _
 ·rw [List.length_append]; exact Nat.le_refl _
theorem z2w (val : Nat -> Int) : ∀ i, (fm val i).length <= i
 | 0 => Nat.le_refl _
 | i + 1 => by
  rw [z0H]
  exact Nat.le_trans (q7N _ _) (Nat.succ_le_succ (z2w val i))
section
variable {prog : Program} {w : World} {A : Around} {R : Result -> Shared -> Prop} {I : Addr} {fp wr : List Addr} {G : Array GenState -> Array GenState -> Prop} {n : Nat} {P : Nat -> Value -> Prop} {St : Nat -> Shared -> Prop}
theorem SetI.moved {s s' : Shared} {S : Addr} {ks : List Int} (x : SetI prog w s.heap S ks) (hm : Moved wr G s s') (hS : S ∉ wr) : SetI prog w s'.heap S ks := x.at λ o e => hm.heap S o hS e
theorem q9G (W : WalksS prog w A.in1 I fp wr G n P St) (S : Addr) (hSf : S ∉ fp) (val : Nat -> Int) (hval : ∀ i v, P i v -> ∃ t, v = .int (val i) t) (hb : n + 1 < scanBound) :
  ∀ (k i : Nat) (s : Shared), i + k = n -> St i s -> SetI prog w s.heap S (fm val i) ->
   (∀ s', Moved (S :: wr) G s s' -> SetI prog w s'.heap S (fm val n) -> R (.ok (.ret .none)) s') -> codeAny (model prog w) A (.builtin "set.update.loop" ⟨[.ref S, .ref I], []⟩) R s := by
 have hw : S ∉ wr := λ z => hSf (W.sub S z)
 have up : ∀ b ∈ wr, b ∈ S :: wr := λ b z => List.mem_cons_of_mem S z
 intro k
 induction k with
 | zero =>
  intro i s e st hs hR
  have e : i = n := e
  subst e
  refine codeAny_builtin F.entry_set_update_loop ?_
  rw [Around.under_plainId F.plain_set_update_loop]
  show wpAny (model prog w) A.in1 (pyNext (.ref I) >>= _) _ _ s
  refine wpAny_bind (W.done s _ _ st λ s' hm => ?_)
  show wpAny (model prog w) A.in1 (ret Value.none) _ _ s'
  exact wpAny_pure (hR s' (hm.mono up) (hs.moved hm hw))
 | succ k ih =>
  intro i s e st hs hR
  have hi : i < n := by omega
  refine codeAny_builtin F.entry_set_update_loop ?_
  rw [Around.under_plainId F.plain_set_update_loop]
  show wpAny (model prog w) A.in1 (pyNext (.ref I) >>= _) _ _ s
  refine wpAny_bind (W.item i s _ _ hi st λ v s' hP st' hm => ?_)
  obtain ⟨t, hv⟩ := hval i v hP
  subst hv
  have hs' := hs.moved hm hw
  show wpAny (model prog w) A.in1 (holding [Value.int (val i) t] (setAdd S (.int (val i) t)) >>= _) _ _ s'
  refine wpAny_bind (wpAny_holding ?_)
  unfold setAdd
  refine wpAny_holding (wpAny_bind ((intKind prog w).pyHash (k := val i) (intKind_is prog w (val i) t) ?_))
  have hl := z2w val i
  refine z6l (s := { s' with toks := s'.toks + 1 }) (k := val i) (tk := t) hs' (by omega) λ h' b sb S' => ?_
  have hkeep : ∀ b o, b ≠ S -> s'.heap.get? b = some o -> h'.get? b = some o := λ b o hb e => by rw [sb.2 b hb]; exact e
  refine wpAny_pure ⟨plainId_quiet F.plain_set_update_loop _, ih (i + 1) _ (by omega) (W.frame (i + 1) s' h' _ st' (Nat.le_succ _) λ b hb o e => hkeep b o (λ z => hSf (z ▸ hb)) e) (by rw [z0H]; exact S') λ s2 hm2 S2 => ?_⟩
  refine hR s2 (Moved.trans W.gtrans ((hm.mono up).then_heap (Nat.le_succ _) λ b o hb e => hkeep b o (λ z => hb (z ▸ List.mem_cons_self)) e) hm2) S2
end
noncomputable def set0 (w : World) : Obj := { cls := .type "set", dict := none, data := .set #[] 0 (.fresh 0 0 (!q0K w)) }
section
variable {prog : Program} {w : World} {A : Around} {E : Value -> Shared -> Prop} {s : Shared}
theorem z4G {h : Heap} {a : Addr} (e : h.get? a = some (set0 w)) : SetI prog w h a [] :=
 ⟨_, #[], 0, _, e, ⟨rfl, rfl, rfl⟩, rfl, λ _ z => by simp at z, by simp, by decide, by rfl, Tab.fresh _⟩
theorem q6H (v : Value) {Q : Value -> Shared -> Prop} (h : Q (.ref s.heap.objs.size) { s with heap := s.heap.push (set0 w) }) :
  codeAny (model prog w) A (.call (.builtin "set.__new__") ⟨[.type "set", v], []⟩) (wants Q E) s := by
 refine codeAny_of_tree ?_
 show wpAny (model prog w) A.in1 (do checkBuiltinCall "set.__new__" ⟨[.type "set", v], []⟩; again (.builtin "set.__new__" ⟨[.type "set", v], []⟩)) _ _ s
 refine wpAny_bind (wpAny_of_eq (F.newCall_set_1 v) ?_)
 refine wpAny_pure ⟨plainId_quiet F.plain_set_new _, codeAny_builtin F.entry_set_new ?_⟩
 rw [Around.under_plainId F.plain_set_new]
 unfold Builtin.«set.__new__» Builtin.Frozenset.newClass
 have q := sub_set_self
 obtain ⟨h0, g0, d0, t0, o0⟩ := s
 dsimp only
 wp_walk
 refine wpAny_askSetting (wpAny_pure ?_)
 dsimp only
 simp only [newObj]
 exact wpAny_bind (wpAny_alloc (wpAny_pure (wpAny_pure h)))
theorem z5b {l : Addr} {items : Array Value} {ns : List Int} {Q : Value -> Shared -> Prop} (hh : A.handled = none) (hl : s.heap.IsList l items) (hi : IntsAre items.toList ns) (hb : items.size + 1 < scanBound)
  (h : ∀ h' tk, SetI prog w h' s.heap.objs.size (fm (λ i => ns.getD i 0) items.size) -> (∀ b o, s.heap.get? b = some o -> h'.get? b = some o) -> Q (.ref s.heap.objs.size) { s with heap := h', toks := tk }) :
  wpAny (model prog w) A (call (.type "set") [.ref l]) Q E s := by
 have m0 := F.called_set.mro
 obtain ⟨c0, r0, m1⟩ := m0
 have m2 := F.called_set.made
 have m3 := F.called_set.sub
 have m4 := F.called_set.notType
 have m5 := F.called_set.canCreate
 have m6 := F.typeCall_set_1 (.ref l)
 refine wpAny_call (codeAny_of_tree ?_)
 show wpAny (model prog w) _ (callAny (.type "set") _) _ _ _
 refine wpAny_pure ⟨Code.quiet_builtin _ (by decide +kernel), codeAny_builtin F.entry_type_call ?_⟩
 rw [Around.under_plain (weight_type_call_type "set" [.ref l] []) rfl]
 repeat (any_goals (first | assumption | wp_step))
 refine codeAny_mono (q6H (.ref l) (E := E) (Q := λ v s1 => v = .ref s.heap.objs.size /\ s1 = { s with heap := s.heap.push (set0 w) }) ⟨rfl, rfl⟩) λ r s1 q => ?_
 cases r with
 | error e => exact q
 | ok f =>
  cases f with
  | ret v =>
   obtain ⟨e1, e2⟩ := q
   subst e1
   subst e2
   have g0 : (s.heap.push (set0 w)).get? s.heap.objs.size = some (set0 w) := Heap.get?_push_size _ rfl
   have ty : Shared.TypeIs { s with heap := s.heap.push (set0 w) } (.ref s.heap.objs.size) "set" := ⟨_, g0, rfl⟩
   have n1 := F.called_set.init.lookup
   have n2 := F.called_set.init.bind (.ref s.heap.objs.size)
   repeat (any_goals (first | assumption | wp_step))
   refine codeAny_mono (codeAny_call_builtin (R := wants (λ v s2 => v = .none /\ ∃ h' tk, s2 = { s with heap := h', toks := tk } /\ SetI prog w h' s.heap.objs.size (fm (λ i => ns.getD i 0) items.size) /\
     ∀ b o, s.heap.get? b = some o -> h'.get? b = some o) E) F.called_set.init.plain F.entry_set_init (check_set_init_1 ty ?_)) λ r2 s2 q2 => ?_
   ·obtain ⟨⟨k1, k2, k3, k4⟩, kl, kc, kn, kd⟩ := hl
    dsimp only at kc kd
    subst kc
    subst kd
    have kl' : (s.heap.push (set0 w)).get? l = some { cls := .type "list", dict := k2, data := .seq items kn, slots := k4 } := Heap.get?_push_of_some _ kl
    have il : (s.heap.push (set0 w)).IsList l items := ⟨_, kl', rfl, kn, rfl⟩
    have p1 := F.sub_list_set
    have p2 := F.sub_list_frozenset
    have p3 : (Value.type "list" == Value.type "dict") = false := by decide
    unfold Builtin.«set.__init__» noKeywords Builtin.Frozenset.updateFrom
    generalize hP : pyIter = PI
    wp_walk
    subst hP
    refine wpAny_pyIter_list il (wpAny_bind (wpAny_runValue ?_))
    have l0 : l < s.heap.objs.size := Heap.lt_size kl
    have z1 : (s.heap.push (set0 w)).objs.size = s.heap.objs.size + 1 := Heap.size_push _ _
    have a1 : l ≠ (s.heap.push (set0 w)).objs.size := by rw [z1]; exact Nat.ne_of_lt (Nat.lt_succ_of_lt l0)
    have a2 : s.heap.objs.size ∉ [(s.heap.push (set0 w)).objs.size, l] := by
     rw [z1]
     intro z
     rcases List.mem_cons.mp z with z | z
     ·exact absurd z (Nat.ne_of_lt (Nat.lt_succ_self _))
     ·exact absurd (List.mem_singleton.mp z) (Nat.ne_of_gt l0)
    refine q9G ((Walks.list (by show A.handled = none; exact hh) _ l a1 items).toS) s.heap.objs.size a2 (λ i => ns.getD i 0) (λ i v e => IntsAre.int_at hi i v (by rw [Array.getElem?_toList]; exact e)) hb
     items.size 0 _ (Nat.zero_add _) ⟨⟨_, Heap.get?_push_size _ rfl, rfl, rfl⟩, il.push _⟩ (z4G (Heap.get?_push_of_some _ g0)) λ s3 hm S3 => ?_
    obtain ⟨h3, g3, d3, t3, o3⟩ := s3
    have b1 : g3 = s.gens := hm.gens
    have b2 : d3 = s.drawn := hm.drawn
    have b3 : o3 = s.os := hm.os
    subst b1
    subst b2
    subst b3
    show wpAny (model prog w) _ _ _ _ _
    refine wpAny_pure ?_
    show wpAny (model prog w) _ (ret Value.none) _ _ _
    refine wpAny_pure ⟨rfl, h3, t3, rfl, S3, λ b o e => ?_⟩
    have b4 := Heap.lt_size e
    refine hm.heap b o (λ z => ?_) (Heap.get?_push_of_some _ (Heap.get?_push_of_some _ e))
    rcases List.mem_cons.mp z with z | z
    ·exact absurd z (Nat.ne_of_lt b4)
    ·have := List.mem_singleton.mp z
     rw [z1] at this
     exact absurd this (Nat.ne_of_lt (Nat.lt_succ_of_lt b4))
   ·cases r2 with
    | error e => exact q2
    | ok f2 =>
     cases f2 with
     | ret v2 =>
      obtain ⟨c1, h', tk, c2, c3, c4⟩ := q2
      subst c1
      subst c2
      repeat (any_goals (first | assumption | wp_step))
      exact h h' tk c3 c4
     | _ => exact q2.elim
  | _ => exact q.elim
end
end L2
end
section
namespace L2
open PySem PyProof.Rows
noncomputable def q1e (h : Heap) (I a : Addr) (f : Value) (i n ep : Nat) : Prop := ∃ o, h.get? I = some o /\ o.cls = .type "set_iterator" /\ o.data = .fields #[f, .int i 0, .ref a, .int n 0, .int ep 0]
noncomputable def q2J (h : Heap) (a : Addr) (es : Array (Int × Value)) (ep : Nat) (t : SetTable) : Prop := ∃ o, h.get? a = some o /\ o.ExactSet /\ o.data = .set es ep t
theorem q1e.typeIs {s : Shared} {I a : Addr} {f : Value} {i n ep : Nat} (x : q1e s.heap I a f i n ep) : s.TypeIs (.ref I) "set_iterator" := let ⟨o, e, c, _⟩ := x; ⟨o, e, c⟩
theorem q1e.at {h h' : Heap} {I a : Addr} {f : Value} {i n ep : Nat} (x : q1e h I a f i n ep) (k : ∀ o, h.get? I = some o -> h'.get? I = some o) : q1e h' I a f i n ep := let ⟨o, e, c⟩ := x; ⟨o, k o e, c⟩
theorem q2J.at {h h' : Heap} {a : Addr} {es : Array (Int × Value)} {ep : Nat} {t : SetTable} (x : q2J h a es ep t) (k : ∀ o, h.get? a = some o -> h'.get? a = some o) : q2J h' a es ep t := let ⟨o, e, c⟩ := x; ⟨o, k o e, c⟩
theorem q2J.typeIs {s : Shared} {a : Addr} {es : Array (Int × Value)} {ep : Nat} {t : SetTable} (x : q2J s.heap a es ep t) : s.TypeIs (.ref a) "set" := let ⟨o, e, c, _⟩ := x; ⟨o, e, c.1⟩
theorem q1F : Slot "set_iterator" "__next__" "set_iterator.__next__" :=
 .of (owner := "set_iterator") (n := "__next__") (by rw [typeLookup_type, builtinLookup_eq_fast]; kernel_rfl) (by decide +kernel) (by decide +kernel) (by decide +kernel)
  (by first | exact .inl (by decide +kernel) | exact .inr (by decide +kernel)) (by rw [isSubtype_type]; kernel_rfl)
theorem q4a : entryFor table "set_iterator.__next__" = some Builtin.«set_iterator.__next__» := entryFor_of_tree (by kernel_rfl)
theorem q5o (v : Value) : argsOk "set_iterator.__next__" ⟨[v], []⟩ := by unfold argsOk; kernel_rfl
theorem z1f : entryFor table "set.__iter__" = some Builtin.«frozenset.__iter__» := entryFor_alias (id' := "frozenset.__iter__") (by kernel_rfl) rfl (by decide +kernel) (by kernel_rfl)
section
variable {prog : Program} {w : World} {A : Around} {E : Value -> Shared -> Prop} {s : Shared} {I a : Addr} {es : Array (Int × Value)} {ep : Nat} {t : SetTable} {Q : Option Value -> Shared -> Prop}
theorem q6E {h : Heap} {o : Obj} {f : Value} {i : Nat} {n : Nat} (e : h.get? I = some o) (c : o.cls = .type "set_iterator") (d : o.data = .fields #[f, .int i 0, .ref a, .int n 0, .int ep 0]) :
  q1e (h.update I (Obj.mapFields (·.setIfInBounds 1 (rawInt ((i : Int) + 1))))) I a f (i + 1) n ep := by
 refine ⟨_, Heap.get?_update_self _ e (Obj.isFreed_of_fields (Obj.data_mapFields d _)), (Obj.cls_mapFields ..).trans c, ?_⟩
 rw [Obj.data_mapFields d]
 simp [rawInt]
theorem q7y {h : Heap} {o : Obj} {f : Value} (g : Value) {i : Nat} {n : Nat} (e : h.get? I = some o) (c : o.cls = .type "set_iterator") (d : o.data = .fields #[f, .int i 0, .ref a, .int n 0, .int ep 0]) :
  q1e (h.update I (Obj.mapFields (·.setIfInBounds 0 g))) I a g i n ep := by
 refine ⟨_, Heap.get?_update_self _ e (Obj.isFreed_of_fields (Obj.data_mapFields d _)), (Obj.cls_mapFields ..).trans c, ?_⟩
 rw [Obj.data_mapFields d]
 simp
theorem q7R {slot i j : Nat} {x : Value} (hI : q1e s.heap I a (.int slot 0) i es.size ep) (hS : q2J s.heap a es ep t) (hf : t.fits es.size = true)
  (hn : ∀ (A : Around) (E' : Value -> Shared -> Prop) (Q' : Option (Value × Nat) -> Shared -> Prop), Q' (some (x, j)) s -> wpAny (model prog w) A (setNext a slot i ep) Q' E' s)
  (hQ : ∀ h', q1e h' I a (.int j 0) (i + 1) es.size ep -> Heap.SameBut I s.heap h' -> Q (some x) { s with heap := h' }) : wpAny (model prog w) A (pyNext (.ref I)) Q E s := by
 obtain ⟨o, ho, hc, hd⟩ := id hI
 obtain ⟨p, hp, hx, hq⟩ := id hS
 unfold pyNext
 refine wpAny_bind (wpAny_attempt (wpAny_callSpecial?_slot (name := Str.ofString "__next__") hI.typeIs q1F (wpAny_call_entry q1F hI.typeIs q4a ?_ (q5o _))))
 unfold Builtin.«set_iterator.__next__»
 refine wpAny_bind (wpAny_pure ?_)
 dsimp only
 refine wpAny_bind (wpAny_fieldsOf ho hd ?_)
 dsimp only
 refine wpAny_bind (wpAny_setEntries_of hp hq hf ?_)
 rw [show (((es.size : Nat) : Int) != ((es.size : Nat) : Int)) = false by simp, if_neg Bool.false_ne_true]
 simp only [Int.toNat_natCast]
 refine wpAny_bind (hn _ _ _ ?_)
 dsimp only
 refine wpAny_bind (wpAny_setField ho hd (by simp) ?_)
 have I1 := q7y (ep := ep) (rawInt j) ho hc hd
 obtain ⟨o1, ho1, hc1, hd1⟩ := id I1
 refine wpAny_bind (wpAny_setField ho1 hd1 (by simp) (wpAny_pure ⟨x, rfl, wpAny_pure (hQ _ (q6E ho1 hc1 hd1) ?_)⟩))
 exact (Heap.SameBut.update ..).trans (Heap.SameBut.update ..)
theorem z0A {slot i : Nat} (hh : A.handled = none) (hI : q1e s.heap I a (.int slot 0) i es.size ep) (hS : q2J s.heap a es ep t) (hf : t.fits es.size = true)
  (hn : ∀ (A : Around) (E' : Value -> Shared -> Prop) (Q' : Option (Value × Nat) -> Shared -> Prop), Q' none s -> wpAny (model prog w) A (setNext a slot i ep) Q' E' s)
  (hQ : ∀ h', Heap.ExtBut I s.heap h' -> Q none { s with heap := h' }) : wpAny (model prog w) A (pyNext (.ref I)) Q E s := by
 obtain ⟨o, ho, hc, hd⟩ := id hI
 obtain ⟨p, hp, hx, hq⟩ := id hS
 unfold pyNext
 refine wpAny_bind (wpAny_attempt (wpAny_callSpecial?_slot (name := Str.ofString "__next__") hI.typeIs q1F (wpAny_call_entry q1F hI.typeIs q4a ?_ (q5o _))))
 unfold Builtin.«set_iterator.__next__»
 refine wpAny_bind (wpAny_pure ?_)
 dsimp only
 refine wpAny_bind (wpAny_fieldsOf ho hd ?_)
 dsimp only
 refine wpAny_bind (wpAny_setEntries_of hp hq hf ?_)
 rw [show (((es.size : Nat) : Int) != ((es.size : Nat) : Int)) = false by simp, if_neg Bool.false_ne_true]
 simp only [Int.toNat_natCast]
 refine wpAny_bind (hn _ _ _ ?_)
 dsimp only
 refine wpAny_bind (wpAny_setField ho hd (by simp) ?_)
 refine wpAny_bind ?_
 simp only [newExc, newTuple]
 refine wpAny_bind (wpAny_newObj_type ?_ (by size_fits))
 refine wpAny_bind (m := firstArgMember _ _) (wpAny_of_eq (a := Value.none) (by first | rfl | (simp only [firstArgMember]; rfl)) ?_)
 refine wpAny_newObj_type ?_ (by size_fits)
 simp only [raiseNew]
 refine wpAny_bind (wpAny_handled ?_)
 rw [show A.in1.handled = none from hh]
 refine wpAny_bind (wpAny_pure (wpAny_throw ?_))
 refine wpAny_bind (wpAny_isInstance (T := "StopIteration") (b := true) ⟨_, Heap.get?_push_size _ rfl, rfl⟩ isSubtype_stop ?_)
 exact wpAny_pure (hQ _ (((Heap.SameBut.update ..).extBut.push _).push _))
theorem z1I {q : Addr} {ps : Array Value} {i k : Nat} {x : Value} {z : Int} (hI : q1e s.heap I a (.ref q) i es.size ep) (hS : q2J s.heap a es ep t) (hf : t.fits es.size = true) (ht : IsTup s.heap q ps) (hk : ps[i]? = some (.int k 0)) (hx : es[k]? = some (z, x))
  (hQ : ∀ h', q1e h' I a (.ref q) (i + 1) es.size ep -> Heap.SameBut I s.heap h' -> Q (some x) { s with heap := h' }) : wpAny (model prog w) A (pyNext (.ref I)) Q E s := by
 obtain ⟨o, ho, hc, hd⟩ := id hI
 obtain ⟨p, hp, hxx, hq⟩ := id hS
 unfold pyNext
 refine wpAny_bind (wpAny_attempt (wpAny_callSpecial?_slot (name := Str.ofString "__next__") hI.typeIs q1F (wpAny_call_entry q1F hI.typeIs q4a ?_ (q5o _))))
 unfold Builtin.«set_iterator.__next__»
 refine wpAny_bind (wpAny_pure ?_)
 dsimp only
 refine wpAny_bind (wpAny_fieldsOf ho hd ?_)
 dsimp only
 refine wpAny_bind (wpAny_setEntries_of hp hq hf ?_)
 rw [show (((es.size : Nat) : Int) != ((es.size : Nat) : Int)) = false by simp, if_neg Bool.false_ne_true]
 simp only [Int.toNat_natCast]
 obtain ⟨oq, hoq, hcq, nq, hdq⟩ := ht
 refine wpAny_bind (wpAny_seqItems hoq hdq ?_)
 dsimp only
 rw [hk]
 dsimp only
 unfold setNextDrawn
 simp only [Int.toNat_natCast]
 refine wpAny_bind (wpAny_bind (wpAny_setState_of hp hq hf ?_))
 dsimp only
 rw [show (ep != ep) = false by simp, if_neg Bool.false_ne_true]
 rw [hx]
 refine wpAny_pure ?_
 refine wpAny_bind (wpAny_setField ho hd (by simp) (wpAny_pure ⟨x, rfl, wpAny_pure (hQ _ (q6E ho hc hd) (Heap.SameBut.update ..))⟩))
theorem z3w {q : Addr} {ps : Array Value} {i : Nat} (hh : A.handled = none) (hI : q1e s.heap I a (.ref q) i es.size ep) (hS : q2J s.heap a es ep t) (hf : t.fits es.size = true) (ht : IsTup s.heap q ps) (hk : ps[i]? = none)
  (hQ : ∀ h', Heap.ExtBut I s.heap h' -> Q none { s with heap := h' }) : wpAny (model prog w) A (pyNext (.ref I)) Q E s := by
 obtain ⟨o, ho, hc, hd⟩ := id hI
 obtain ⟨p, hp, hx, hq⟩ := id hS
 unfold pyNext
 refine wpAny_bind (wpAny_attempt (wpAny_callSpecial?_slot (name := Str.ofString "__next__") hI.typeIs q1F (wpAny_call_entry q1F hI.typeIs q4a ?_ (q5o _))))
 unfold Builtin.«set_iterator.__next__»
 refine wpAny_bind (wpAny_pure ?_)
 dsimp only
 refine wpAny_bind (wpAny_fieldsOf ho hd ?_)
 dsimp only
 refine wpAny_bind (wpAny_setEntries_of hp hq hf ?_)
 rw [show (((es.size : Nat) : Int) != ((es.size : Nat) : Int)) = false by simp, if_neg Bool.false_ne_true]
 simp only [Int.toNat_natCast]
 obtain ⟨oq, hoq, hcq, nq, hdq⟩ := ht
 refine wpAny_bind (wpAny_seqItems hoq hdq ?_)
 dsimp only
 rw [hk]
 dsimp only
 refine wpAny_bind (wpAny_setField ho hd (by simp) ?_)
 obtain ⟨o1, ho1, hc1, hd1⟩ := q7y (ep := ep) (rawInt 0) ho hc hd
 refine wpAny_bind (wpAny_setField ho1 hd1 (by simp) ?_)
 refine wpAny_bind ?_
 simp only [newExc, newTuple]
 refine wpAny_bind (wpAny_newObj_type ?_ (by size_fits))
 refine wpAny_bind (m := firstArgMember _ _) (wpAny_of_eq (a := Value.none) (by first | rfl | (simp only [firstArgMember]; rfl)) ?_)
 refine wpAny_newObj_type ?_ (by size_fits)
 simp only [raiseNew]
 refine wpAny_bind (wpAny_handled ?_)
 rw [show A.in1.handled = none from hh]
 refine wpAny_bind (wpAny_pure (wpAny_throw ?_))
 refine wpAny_bind (wpAny_isInstance (T := "StopIteration") (b := true) ⟨_, Heap.get?_push_size _ rfl, rfl⟩ isSubtype_stop ?_)
 exact wpAny_pure (hQ _ ((((Heap.SameBut.update ..).trans (Heap.SameBut.update ..)).extBut.push _).push _))
end
end L2
end
section
namespace L2
open PySem PyProof.Rows
section
variable {prog : Program} {w : World} {A : Around} {E : Value -> Shared -> Prop} {s : Shared} {I a : Addr} {es : Array (Int × Value)} {ep : Nat} {t : SetTable}
theorem q9J {slot i : Nat} {Q : Option (Value × Nat) -> Shared -> Prop} (ho : q0K w = true) (hS : q2J s.heap a es ep t) (hf : t.fits es.size = true)
  (h : Q (((pickOrder (w.params.setOrder a ep) es)[i]?).map λ e => (e.2, slot)) s) : wpAny (model prog w) A (setNext a slot i ep) Q E s := by
 obtain ⟨p, hp, hx, hq⟩ := id hS
 unfold setNext
 refine wpAny_bind (wpAny_setState_of hp hq hf ?_)
 dsimp only
 unfold setsByText
 refine wpAny_bind (wpAny_bind (wpAny_askSetting (wpAny_pure ?_)))
 show wpAny (model prog w) A (if q0K w = true then _ else _) Q E s
 rw [if_pos ho]
 rw [show (ep != ep) = false by simp, if_neg Bool.false_ne_true]
 refine wpAny_bind ?_
 unfold setWalk
 refine wpAny_bind (wpAny_setState_of hp hq hf ?_)
 dsimp only
 unfold setsByText
 refine wpAny_bind (wpAny_bind (wpAny_askSetting (wpAny_pure ?_)))
 show wpAny (model prog w) A (if q0K w = true then _ else _) _ E s
 rw [if_pos ho]
 exact wpAny_bind (wpAny_askSetting (wpAny_pure (wpAny_pure h)))
theorem z2F {slot i : Nat} {Q : Option (Value × Nat) -> Shared -> Prop} (ho : q0K w = false) (hd : (!t.plain && decide (es.size > 1)) = false) (hl : t.led = true) (hS : q2J s.heap a es ep t) (hf : t.fits es.size = true)
  (h : Q (match es[SetTable.below t.place slot]?, t.place[SetTable.below t.place slot]? with | some (_, x), some j => some (x, j + 1) | _, _ => none) s) : wpAny (model prog w) A (setNext a slot i ep) Q E s := by
 obtain ⟨p, hp, hx, hq⟩ := id hS
 unfold setNext
 refine wpAny_bind (wpAny_setState_of hp hq hf ?_)
 dsimp only
 unfold setsByText
 refine wpAny_bind (wpAny_bind (wpAny_askSetting (wpAny_pure ?_)))
 show wpAny (model prog w) A (if q0K w = true then _ else _) Q E s
 rw [if_neg (by rw [ho]; exact Bool.false_ne_true)]
 show wpAny (model prog w) A (if (!t.plain && decide (es.size > 1)) = true then _ else _) Q E s
 rw [hd, if_neg Bool.false_ne_true]
 refine wpAny_bind ?_
 show wpAny (model prog w) A (if (!t.led && !es.isEmpty) = true then _ else _) _ E s
 rw [hl]
 exact wpAny_pure (wpAny_pure h)
theorem z3r {α : Type} {Q : List α -> Shared -> Prop} : ∀ (n : Nat) (xs : List α) (s : Shared), xs.length = n -> (∀ l d, l.Perm xs -> Q l { s with drawn := d }) -> wpAny (model prog w) A (drawOrder n xs) Q E s := by
 intro n
 induction n generalizing Q with
 | zero =>
  intro xs s hl h
  have : xs = [] := List.length_eq_zero_iff.mp hl
  subst this
  exact wpAny_pure (h [] s.drawn .rfl)
 | succ n ih =>
  intro xs s hl h
  cases xs with
  | nil => cases hl
  | cons y r =>
   show wpAny (model prog w) A (choose .order (y :: r).length >>= _) Q E s
   have key : ∀ i, i < (y :: r).length -> wpAny (model prog w) A (match (y :: r)[i]? with
     | some x => do return x :: (<- drawOrder n ((y :: r).eraseIdx i))
     | none => unsupported "internal:drawOrder") Q E { s with drawn := s.drawn.bump .order } := λ i hi => by
    have hg : (y :: r)[i]? = some (y :: r)[i] := List.getElem?_eq_getElem hi
    rw [hg]
    refine wpAny_bind (ih _ _ (by rw [List.length_eraseIdx, if_pos hi]; omega) λ l d p => wpAny_pure (h _ d ?_))
    exact (List.Perm.cons _ p).trans (q3E hi rfl)
   refine wpAny_bind λ Γ p hΓ => ⟨by simp, ?_⟩
   exact key _ (Nat.mod_lt _ (by simp))
noncomputable def q7k (f : Value) (a : Addr) (n ep : Nat) : Obj := { cls := .type "set_iterator", data := .fields #[f, .int 0 0, .ref a, .int n 0, .int ep 0] }
noncomputable def q9E (l : List Nat) : Obj := { cls := .type "tuple", data := .seq (l.map λ (i : Nat) => Value.int i 0).toArray }
theorem q5G {h : Heap} {f : Value} {n : Nat} : q1e (h.push (q7k f a n ep)) h.objs.size a f 0 n ep := ⟨_, Heap.get?_push_size _ rfl, rfl, rfl⟩
theorem z1g {Q : Value -> Shared -> Prop} (hS : q2J s.heap a es ep t) (hf : t.fits es.size = true) (hb : es.size <= sizeLine)
  (h1 : (!q0K w && (!t.plain && decide (es.size > 1))) = false -> Q (.ref s.heap.objs.size) { s with heap := s.heap.push (q7k (.int 0 0) a es.size ep) })
  (h2 : ∀ l d, q0K w = false -> l.Perm (List.range es.size) -> Q (.ref (s.heap.objs.size + 1)) { s with heap := (s.heap.push (q9E l)).push (q7k (.ref s.heap.objs.size) a es.size ep), drawn := d }) :
  wpAny (model prog w) A (pyIter (.ref a)) Q E s := by
 obtain ⟨p, hp, hx, hq⟩ := id hS
 refine wpAny_pyIter_slot hS.typeIs F.slot_set_iter (wpAny_call_entry F.slot_set_iter hS.typeIs z1f ?_ (F.args_set_iter_1 _))
 unfold Builtin.«frozenset.__iter__» Builtin.Frozenset.slot0 slotArgs
 simp only [List.isEmpty_nil, Bool.not_true, Bool.false_eq_true, ↓reduceIte, bind_assoc, List.length_nil, bne_self_eq_false]
 unfold Builtin.Frozenset.addrOf Builtin.Frozenset.sizeOf
 refine wpAny_bind (wpAny_pure ?_)
 try dsimp only
 refine wpAny_bind (wpAny_pure ?_)
 refine wpAny_bind (wpAny_bind (wpAny_setEntries_of hp hq hf (wpAny_pure ?_)))
 unfold setDrawn
 refine wpAny_bind (wpAny_bind (wpAny_setState_of hp hq hf ?_))
 dsimp only
 unfold setsByText
 refine wpAny_bind (wpAny_bind (wpAny_askSetting (wpAny_pure (wpAny_pure ?_))))
 show wpAny (model prog w) _ (if (!q0K w && (!t.plain && decide (es.size > 1))) = true then _ else _) _ _ _
 by_cases hc : (!q0K w && (!t.plain && decide (es.size > 1))) = true
 ·rw [if_pos hc]
  have ho : q0K w = false := by
   cases e : q0K w with
   | false => rfl
   | true => rw [e] at hc; cases hc
  refine wpAny_bind (z3r es.size (List.range es.size) s (List.length_range) λ l d pl => ?_)
  have hl : l.length = es.size := by rw [pl.length_eq, List.length_range]
  unfold newTuple
  refine wpAny_bind (wpAny_newObj_type ?_ (by show (l.map _).toArray.size <= _; simp; omega))
  have hp' : (s.heap.push { cls := .type "tuple", data := .seq (l.map λ (i : Nat) => rawInt i).toArray }).get? a = some p := Heap.get?_push_of_some _ hp
  refine wpAny_bind (wpAny_setEpoch_of hp' hq hf ?_)
  refine wpAny_bind (wpAny_newObj_type (wpAny_pure ⟨_, rfl, "set_iterator", _, ⟨_, Heap.get?_push_size _ rfl, rfl⟩, q1F.lookup, ?_⟩))
  have z : (s.heap.push { cls := .type "tuple", data := .seq (l.map λ (i : Nat) => rawInt i).toArray }).objs.size = s.heap.objs.size + 1 := Heap.size_push _ _
  have := h2 l d ho pl
  rw [<- z] at this
  exact this
 ·rw [if_neg hc]
  refine wpAny_bind (wpAny_pure ?_)
  refine wpAny_bind (wpAny_setEpoch_of hp hq hf ?_)
  refine wpAny_bind (wpAny_newObj_type (wpAny_pure ⟨_, rfl, "set_iterator", _, ⟨_, Heap.get?_push_size _ rfl, rfl⟩, q1F.lookup, ?_⟩))
  exact h1 (by simpa using hc)
end
section
variable {prog : Program} {w : World} {A : Around} {E : Value -> Shared -> Prop} {s : Shared} {I a : Addr} {es : Array (Int × Value)} {ep : Nat} {t : SetTable}
noncomputable abbrev Nx (prog : Program) (w : World) (I : Addr) (fp : List Addr) (n : Nat) (ws : List Value) (St : Nat -> Heap -> Prop) : Prop :=
 ∀ A : Around, A.handled = none -> WalksS prog w A I fp [I] (λ a b => b = a) n (λ i v => ws[i]? = some v) (λ i s => St i s.heap)
theorem z4H {fp : List Addr} {n : Nat} {ws : List Value} {St : Nat -> Heap -> Prop} (hI : I ∈ fp) (hz : ws.length = n)
    (fr : ∀ i h h', St i h -> (∀ b ∈ fp, ∀ o, h.get? b = some o -> h'.get? b = some o) -> St i h')
    (it : ∀ (A : Around) (E : Value -> Shared -> Prop) (Q : Option Value -> Shared -> Prop) (s : Shared) i v, A.handled = none -> ws[i]? = some v -> St i s.heap -> (∀ h', St (i + 1) h' -> Heap.SameBut I s.heap h' -> Q (some v) { s with heap := h' }) -> wpAny (model prog w) A (pyNext (.ref I)) Q E s)
    (dn : ∀ (A : Around) (E : Value -> Shared -> Prop) (Q : Option Value -> Shared -> Prop) (s : Shared), A.handled = none -> St n s.heap -> (∀ h', Heap.ExtBut I s.heap h' -> Q none { s with heap := h' }) -> wpAny (model prog w) A (pyNext (.ref I)) Q E s)
    (sf : ∀ (A : Around) (E : Value -> Shared -> Prop) (Q : Value -> Shared -> Prop) (s : Shared) i, St i s.heap -> Q (.ref I) s -> wpAny (model prog w) A (pyIter (.ref I)) Q E s) : Nx prog w I fp n ws St := λ A hh =>
  { sub := λ b hb => by rw [List.mem_singleton.mp hb]; exact hI
    grefl := λ _ => rfl
    gtrans := λ _ _ _ h1 h2 => h2.trans h1
    frame := λ i s h' tk st _ k => fr i s.heap h' st k
    item := λ i s Q E hi st hQ => by
      have hg : ws[i]? = some ws[i] := List.getElem?_eq_getElem (by omega)
      exact it A E Q s i _ hh hg st λ h' st' sb => hQ _ _ hg st' ⟨λ b o hb e => sb.extBut b o (λ z => hb (List.mem_singleton.mpr z)) e, rfl, rfl, rfl, Nat.le_refl _⟩
    done := λ s Q E st hQ => dn A E Q s hh st λ h' eb => hQ _ ⟨λ b o hb e => eb b o (λ z => hb (List.mem_singleton.mpr z)) e, rfl, rfl, rfl, Nat.le_refl _⟩
    self := λ i s Q E st hQ => sf A E Q s i st hQ }
theorem q5t {h h' : Heap} {b : Addr} (sb : Heap.SameBut I h h') (hb : b ≠ I) : ∀ o, h.get? b = some o -> h'.get? b = some o := λ o e => sb.extBut b o hb e
theorem q7z : Slot "set_iterator" "__iter__" "set_iterator.__iter__" :=
 .of (owner := "set_iterator") (n := "__iter__") (by rw [typeLookup_type, builtinLookup_eq_fast]; kernel_rfl) (by decide +kernel) (by decide +kernel) (by decide +kernel)
  (by first | exact .inl (by decide +kernel) | exact .inr (by decide +kernel)) (by rw [isSubtype_type]; kernel_rfl)
theorem q9I : entryFor table "set_iterator.__iter__" = some Builtin.«dict_keyiterator.__iter__» := entryFor_alias (id' := "dict_keyiterator.__iter__") (by kernel_rfl) rfl (by decide +kernel) (by kernel_rfl)
theorem z1z (v : Value) : argsOk "set_iterator.__iter__" ⟨[v], []⟩ := by unfold argsOk; kernel_rfl
theorem q7r {f : Value} {i n : Nat} {Q : Value -> Shared -> Prop} (hI : q1e s.heap I a f i n ep) (h : Q (.ref I) s) : wpAny (model prog w) A (pyIter (.ref I)) Q E s := by
 refine wpAny_pyIter_slot hI.typeIs q7z (wpAny_call_entry q7z hI.typeIs q9I ?_ (z1z _))
 show wpAny (model prog w) _ (ret (.ref I)) _ _ s
 exact wpAny_pure ⟨_, rfl, "set_iterator", _, hI.typeIs, q1F.lookup, h⟩
theorem q9T (ho : q0K w = true) (hf : t.fits es.size = true) (hne : a ≠ I) :
  Nx prog w I [I, a] es.size ((pickOrder (w.params.setOrder a ep) es).toList.map (·.2)) (λ i h => q1e h I a (.int (0 : Nat) 0) i es.size ep /\ q2J h a es ep t) := by
 have hz : (pickOrder (w.params.setOrder a ep) es).size = es.size := by
  have := (q2N (w.params.setOrder a ep) es).length_eq
  rwa [Array.length_toList, Array.length_toList] at this
 refine z4H (by simp) (by rw [List.length_map, Array.length_toList, hz]) (λ i h h' st k => ⟨st.1.at (k I (by simp)), st.2.at (k a (by simp))⟩) (λ A E Q s i v hh hv st hQ => ?_) (λ A E Q s hh st hQ => ?_) λ A E Q s i st h => q7r st.1 h
 ·obtain ⟨e, he, hev⟩ : ∃ e, (pickOrder (w.params.setOrder a ep) es)[i]? = some e /\ e.2 = v := by
   rw [List.getElem?_map, Array.getElem?_toList] at hv
   cases q : (pickOrder (w.params.setOrder a ep) es)[i]? with
   | none => rw [q] at hv; cases hv
   | some e => rw [q] at hv; cases hv; exact ⟨e, rfl, rfl⟩
  refine q7R (slot := 0) (j := 0) (x := v) st.1 st.2 hf (λ A E' Q' q => q9J ho st.2 hf (by rw [he, Option.map_some, hev]; exact q)) λ h' st' sb => ?_
  exact hQ h' ⟨st', st.2.at (q5t sb hne)⟩ sb
 ·refine z0A (slot := 0) hh st.1 st.2 hf (λ A E' Q' q => q9J ho st.2 hf (by rw [Array.getElem?_eq_none (by omega)]; exact q)) hQ
noncomputable def slotAt (t : SetTable) : Nat -> Nat
 | 0 => 0
 | i + 1 => t.place.getD i 0 + 1
theorem q3O (ht : Rise t.place) : ∀ {i : Nat}, i <= t.place.size -> SetTable.below t.place (slotAt t i) = i
 | 0, _ => q8u ht
 | i + 1, h => by
  have hg : t.place[i]? = some t.place[i] := Array.getElem?_eq_getElem (by omega)
  show SetTable.below t.place (t.place.getD i 0 + 1) = i + 1
  rw [Array.getD_eq_getD_getElem?, hg]
  exact q8J ht hg
theorem z1P (ho : q0K w = false) (hd : (!t.plain && decide (es.size > 1)) = false) (ht : Tab t (!q0K w)) (hf : t.fits es.size = true) (hne : a ≠ I) :
  Nx prog w I [I, a] es.size (es.toList.map (·.2)) (λ i h => q1e h I a (.int (slotAt t i : Nat) 0) i es.size ep /\ q2J h a es ep t /\ i <= es.size) := by
 have hl : t.led = true := by rw [ht.led, ho]; rfl
 have hz : t.place.size = es.size := by
  unfold SetTable.fits at hf
  rw [Bool.and_eq_true] at hf
  exact beq_iff_eq.mp hf.1
 refine z4H (by simp) (by rw [List.length_map, Array.length_toList]) (λ i h h' st k => ⟨st.1.at (k I (by simp)), st.2.1.at (k a (by simp)), st.2.2⟩) (λ A E Q s i v hh hv st hQ => ?_) (λ A E Q s hh st hQ => ?_) λ A E Q s i st h => q7r st.1 h
 ·obtain ⟨z, he⟩ : ∃ z, es[i]? = some (z, v) := by
   rw [List.getElem?_map, Array.getElem?_toList] at hv
   cases q : es[i]? with
   | none => rw [q] at hv; cases hv
   | some e => rw [q] at hv; cases hv; exact ⟨e.1, rfl⟩
  have hi : i < es.size := by
   rcases Nat.lt_or_ge i es.size with h | h
   ·exact h
   ·rw [Array.getElem?_eq_none h] at he; cases he
  have hg : t.place[i]? = some t.place[i] := Array.getElem?_eq_getElem (by omega)
  have hb := q3O ht.rise (i := i) (by omega)
  have hj : slotAt t (i + 1) = t.place[i] + 1 := by
   show t.place.getD i 0 + 1 = _
   rw [Array.getD_eq_getD_getElem?, hg]
   rfl
  refine q7R (slot := slotAt t i) (j := slotAt t (i + 1)) (x := v) st.1 st.2.1 hf (λ A E' Q' q => z2F ho hd hl st.2.1 hf (by rw [hb, he, hg]; rw [hj] at q; exact q)) λ h' st' sb => ?_
  exact hQ h' ⟨st', st.2.1.at (q5t sb hne), hi⟩ sb
 ·have hb := q3O ht.rise (i := es.size) (by omega)
  refine z0A (slot := slotAt t es.size) hh st.1 st.2.1 hf (λ A E' Q' q => z2F ho hd hl st.2.1 hf (by rw [hb, Array.getElem?_eq_none (Nat.le_refl _)]; exact q)) hQ
theorem q8I {q : Addr} {l : List Nat} (hp : l.Perm (List.range es.size)) (hf : t.fits es.size = true) (hne : a ≠ I) (hq : q ≠ I) :
  Nx prog w I [I, a, q] es.size (l.map λ i => (es.getD i (0, .none)).2) (λ i h => q1e h I a (.ref q) i es.size ep /\ q2J h a es ep t /\ IsTup h q (l.map λ (i : Nat) => Value.int i 0).toArray) := by
 have hl : l.length = es.size := by rw [hp.length_eq, List.length_range]
 refine z4H (by simp) (by rw [List.length_map, hl]) (λ i h h' st k => ⟨st.1.at (k I (by simp)), st.2.1.at (k a (by simp)), let ⟨o, e, r⟩ := st.2.2; ⟨o, k q (by simp) o e, r⟩⟩) (λ A E Q s i v hh hv st hQ => ?_) (λ A E Q s hh st hQ => ?_) λ A E Q s i st h => q7r st.1 h
 ·obtain ⟨k, hk, hkv⟩ : ∃ k, l[i]? = some k /\ (es.getD k (0, .none)).2 = v := by
   rw [List.getElem?_map] at hv
   cases q : l[i]? with
   | none => rw [q] at hv; cases hv
   | some k => rw [q] at hv; cases hv; exact ⟨k, rfl, rfl⟩
  have hks : k < es.size := by
   have := hp.mem_iff.mp (List.mem_iff_getElem?.mpr ⟨i, hk⟩)
   exact List.mem_range.mp this
  have he : es[k]? = some es[k] := Array.getElem?_eq_getElem hks
  have hv2 : es[k].2 = v := by
   rw [<- hkv, Array.getD_eq_getD_getElem?, he]
   rfl
  refine z1I (k := k) (z := es[k].1) (x := v) st.1 st.2.1 hf st.2.2 (by rw [<- Array.getElem?_toList, List.toList_toArray, List.getElem?_map, hk]; rfl) (by rw [he, <- hv2]) λ h' st' sb => ?_
  exact hQ h' ⟨st', st.2.1.at (q5t sb hne), let ⟨o, e, r⟩ := st.2.2; ⟨o, q5t sb hq o e, r⟩⟩ sb
 ·refine z3w hh st.1 st.2.1 hf st.2.2 (Array.getElem?_eq_none (by rw [List.size_toArray, List.length_map]; omega)) hQ
end
end L2
end
section
namespace L2
open PySem PyProof.Rows
section
variable {prog : Program} {w : World} {A : Around} {E : Value -> Shared -> Prop} {s : Shared} {I a : Addr} {es : Array (Int × Value)} {ep : Nat} {t : SetTable} {ks : List Int}
theorem z1R (hT : s.TypeIs (.ref a) "set") {Q : Bool -> Shared -> Prop} (h : Q false s) : wpAny (model prog w) A (Builtin.List.listLengthHint (.ref a)) Q E s := by
 unfold Builtin.List.listLengthHint
 refine wpAny_bind (wpAny_specialOf hT F.slot_set_len.lookup ?_)
 generalize hid : ("set.__len__" : String) = id0
 wp_delta
 rw [show splitId id0 = some ("set", "__len__") from by subst hid; decide +kernel]
 subst hid
 refine wpAny_bind (wpAny_isInstance (T := "set") (b := true) hT (by rw [isSubtype_type]; kernel_rfl) ?_)
 refine wpAny_ite_split (λ z => absurd z (by decide)) λ _ => ?_
 refine wpAny_ite_split (λ _ => ?_) λ z => absurd (by decide +kernel) z
 exact wpAny_bind (wpAny_typeOf hT (wpAny_pure h))
theorem q7T {S : Addr} {fp : List Addr} {n c0 : Nat} {ws : List Value} {St : Nat -> Heap -> Prop} {c : Bool -> Bool} {s1 : Shared} {res : Value} {R : Result -> Shared -> Prop} {EE : Value -> Shared -> Prop} (W : Nx prog w I fp n ws St) (hh : A.handled = none) (hn : n <= sizeLine) (hSf : S ∉ fp)
  (hT : s1.TypeIs (.ref a) "set") (st : St 0 s1.heap) (hS : s1.heap.get? S = some { cls := .type "list", data := .seq #[] c0 })
  (hR : ∀ h' tk acc c', (∀ b o, b ≠ S -> b ≠ I -> s1.heap.get? b = some o -> h'.get? b = some o) -> h'.get? S = some { cls := .type "list", dict := none, data := .seq acc c', slots := #[] } -> acc.toList = ws -> R (.ok (.ret res)) { s1 with heap := h', toks := tk }) (hw : ws.length = n) :
  wpAny (model prog w) A.in1 (do
   let room <- holding [Value.ref I] (Builtin.List.listLengthHint (.ref a))
   if c room = true then do
    rule "list.extend.makes-room"
    Builtin.List.listTouch (.ref S)
    again (.builtin "list.extend.loop" ⟨[.ref S, .ref I, res], []⟩)
   else again (.builtin "list.extend.loop" ⟨[.ref S, .ref I, res], []⟩))
   (λ fin s' => match fin with | .done f => R (.ok f) s' | .again c' => c'.quiet = true /\ codeAny (model prog w) A c' R s') EE s1 := by
 have loop : ∀ (h : Heap) (c1 tk : Nat), St 0 h -> (∀ b o, b ≠ S -> s1.heap.get? b = some o -> h.get? b = some o) -> h.get? S = some { cls := .type "list", data := .seq #[] c1 } ->
   codeAny (model prog w) A (.builtin "list.extend.loop" ⟨[.ref S, .ref I, res], []⟩) R { s1 with heap := h, toks := tk } := λ h c1 tk st1 k e => by
  refine codeAny_extend_loopS (W A.in1 hh) hn S hSf res n 0 _ #[] c1 rfl (Nat.zero_le _) st1 e (ItemsOf.nil _) λ s' acc c' hm e' ac => ?_
  have b1 : s' = { s1 with heap := s'.heap, toks := s'.toks } := by
   have q1 : s'.gens = s1.gens := hm.gens
   have q2 : s'.drawn = s1.drawn := hm.drawn
   have q3 : s'.os = s1.os := hm.os
   obtain ⟨h', g', d', t', o'⟩ := s'
   dsimp only at q1 q2 q3
   subst q1
   subst q2
   subst q3
   rfl
  rw [b1]
  refine hR s'.heap s'.toks acc c' (λ b o hb hi q => hm.heap b o (λ z => ?_) (k b o hb q)) e' ?_
  ·rcases List.mem_cons.mp z with z | z
   ·exact hb z
   ·exact hi (List.mem_singleton.mp z)
  ·refine List.ext_getElem? λ j => ?_
   by_cases hj : j < n
   ·have hj' : j < acc.size := by rw [ac.1]; exact hj
    have q1 : acc[j]? = some acc[j] := Array.getElem?_eq_getElem hj'
    rw [Array.getElem?_toList, q1]
    exact (ac.2 j _ q1).symm
   ·rw [List.getElem?_eq_none (by rw [Array.length_toList, ac.1]; omega), List.getElem?_eq_none (by omega)]
 refine wpAny_bind (wpAny_holding (z1R hT ?_))
 refine wpAny_ite_split (λ _ => ?_) λ _ => wpAny_pure ⟨plainId_quiet F.plain_extend_loop _, loop s1.heap c0 s1.toks st (λ b o _ e => e) hS⟩
 refine wpAny_bind (wpAny_rule (wpAny_bind ?_))
 show wpAny (model prog w) A.in1 (updateSeq S (·.push .none) >>= λ _ => updateSeq S (·.pop)) _ _ _
 refine wpAny_bind (wpAny_updateSeq hS rfl ?_)
 have e2 := Heap.get?_update_self (Obj.mapSeq (·.push Value.none)) hS rfl
 refine wpAny_updateSeq (hz := by seq_fits) e2 rfl ?_
 have e3 := Heap.get?_update_self (Obj.mapSeq (·.pop)) e2 rfl
 have oth : ∀ b o, b ≠ S -> s1.heap.get? b = some o -> ((s1.heap.update S (Obj.mapSeq (·.push Value.none))).update S (Obj.mapSeq (·.pop))).get? b = some o := λ b o hb e =>
  (Heap.get?_update_other _ _ (Ne.symm hb)).trans ((Heap.get?_update_other _ _ (Ne.symm hb)).trans e)
 refine wpAny_pure ⟨plainId_quiet F.plain_extend_loop _, loop _ _ s1.toks ?_ oth e3⟩
 exact (W A.in1 hh).frame 0 s1 _ s1.toks st (Nat.le_refl _) λ b hb o e => oth b o (λ z => hSf (z ▸ hb)) e
noncomputable def EndC (s : Shared) (a : Addr) (ws : List Value) (I : Addr) (d : Drawn) (r : Result) (s' : Shared) : Prop :=
 ∃ h' tk acc c', r = .ok (.ret (.ref s.heap.objs.size)) /\ s' = { s with heap := h', toks := tk, drawn := d } /\ h'.get? s.heap.objs.size = some { cls := .type "list", dict := none, data := .seq acc c', slots := #[] } /\ acc.toList = ws /\
  ∀ b o, b ≠ s.heap.objs.size -> b ≠ I -> s.heap.get? b = some o -> h'.get? b = some o
theorem q6M {Q : List Value -> Shared -> Prop} (hh : A.handled = none) (hS : SetI prog w s.heap a ks)
  (h : ∀ vs h' tk d, IntsAre vs (vs.map q3s) -> (vs.map q3s).Perm ks -> (∀ b o, s.heap.get? b = some o -> h'.get? b = some o) -> s.heap.objs.size < h'.objs.size -> Q vs { s with heap := h', toks := tk, drawn := d }) : wpAny (model prog w) A (collect (.ref a)) Q E s := by
 obtain ⟨o, es, ep, t, ho, hx, hd, hel, hp, hb, hf, ht⟩ := id hS
 have hz : es.size <= sizeLine := fits_of_scanBound hb
 have hInts : ∀ vs : List Value, vs.Perm (es.toList.map (·.2)) -> IntsAre vs (vs.map q3s) /\ (vs.map q3s).Perm ks := λ vs p => by
  refine ⟨?_, (p.map _).trans (by rw [List.map_map]; exact hp)⟩
  have all : ∀ v ∈ vs, ∃ tk, v = .int (q3s v) tk := λ v hv => by
   obtain ⟨e, he, q⟩ := List.mem_map.mp (p.mem_iff.mp hv)
   obtain ⟨tk, e2⟩ := q7D hel he
   exact ⟨tk, by rw [<- q]; exact e2⟩
  clear p
  induction vs with
  | nil => exact .nil
  | cons v r ih =>
   obtain ⟨tk, e⟩ := all v (List.mem_cons_self ..)
   rw [List.map_cons]
   have q := ih λ u hu => all u (List.mem_cons_of_mem _ hu)
   generalize hn : q3s v = n at e
   subst e
   exact .cons n tk q
 have hat : a < s.heap.objs.size := Heap.lt_size ho
 unfold collect
 refine wpAny_bind (wpAny_runValue (codeAny_builtin F.entry_proto_collect ?_))
 rw [Around.under_plainId F.plain_proto_collect]
 show wpAny (model prog w) A.in1 (newList [] >>= λ l => again (.builtin "list.__iadd__" ⟨[l, .ref a], []⟩)) _ _ s
 refine wpAny_bind (wpAny_newObj_type ?_)
 refine wpAny_pure ⟨plainId_quiet F.plain_list_iadd _, codeAny_builtin F.entry_list_iadd ?_⟩
 rw [Around.under_plainId F.plain_list_iadd]
 have hS1 : (s.heap.push { cls := .type "list", data := .seq ([] : List Value).toArray }).get? s.heap.objs.size = some { cls := .type "list", data := .seq ([] : List Value).toArray } := Heap.get?_push_size _ rfl
 have hA1 : q2J (s.heap.push { cls := .type "list", data := .seq ([] : List Value).toArray }) a es ep t := ⟨o, Heap.get?_push_of_some _ ho, hx, hd⟩
 show wpAny (model prog w) A.in1 (Builtin.List.listExtendWith (.ref s.heap.objs.size) (.ref a) (.ref s.heap.objs.size)) _ _ _
 unfold Builtin.List.listExtendWith
 refine wpAny_bind (wpAny_typeOf (T := "set") ⟨o, Heap.get?_push_of_some _ ho, hx.1⟩ ?_)
 have h1 : Builtin.List.listSameRef (.ref s.heap.objs.size) (.ref a) = false := by
  unfold Builtin.List.listSameRef
  exact beq_eq_false_iff_ne.mpr (Nat.ne_of_gt hat)
 have h2 : (Value.type "set" == Value.type "list") = false := by decide
 have h3 : (Value.type "set" == Value.type "tuple") = false := by decide
 simp only [h1, h2, h3, Bool.or_false, Bool.false_eq_true, if_false]
 refine wpAny_bind (z1g (t := t) hA1 hf hz ?_ ?_)
 ·intro hnd
  have hne : a ≠ (s.heap.push { cls := .type "list", data := .seq ([] : List Value).toArray }).objs.size := by rw [Heap.size_push]; exact Nat.ne_of_lt (Nat.lt_succ_of_lt hat)
  have hSf : s.heap.objs.size ∉ [(s.heap.push { cls := .type "list", data := .seq ([] : List Value).toArray }).objs.size, a] := λ z => by
   rw [Heap.size_push] at z
   rcases List.mem_cons.mp z with z | z
   ·exact absurd z (Nat.ne_of_lt (Nat.lt_succ_self _))
   ·exact absurd (List.mem_singleton.mp z) (Nat.ne_of_gt hat)
  obtain ⟨ws, St, p, W, st⟩ : ∃ ws St, ws.Perm (es.toList.map (·.2)) /\ Nx prog w (s.heap.push { cls := .type "list", data := .seq ([] : List Value).toArray }).objs.size [(s.heap.push { cls := .type "list", data := .seq ([] : List Value).toArray }).objs.size, a] es.size ws St /\
    St 0 ((s.heap.push { cls := .type "list", data := .seq ([] : List Value).toArray }).push (q7k (.int 0 0) a es.size ep)) := by
   by_cases hot : q0K w = true
   ·exact ⟨_, _, (q2N _ es).map _, q9T (t := t) (ep := ep) hot hf hne, q5G, hA1.at λ _ => Heap.get?_push_of_some _⟩
   ·have hot : q0K w = false := by simpa using hot
    rw [hot] at hnd
    exact ⟨_, _, .rfl, z1P (ep := ep) hot (by simpa using hnd) ht hf hne, q5G, hA1.at λ _ => Heap.get?_push_of_some _, Nat.zero_le _⟩
  refine wpAny_mono (q7T (A := A) (a := a) (c0 := 0) (s1 := { s with heap := (s.heap.push { cls := .type "list", data := .seq ([] : List Value).toArray }).push (q7k (.int 0 0) a es.size ep) }) (R := EndC s a ws (s.heap.push { cls := .type "list", data := .seq ([] : List Value).toArray }).objs.size s.drawn)
   W hh hz hSf ⟨o, Heap.get?_push_of_some _ (Heap.get?_push_of_some _ ho), hx.1⟩ st (Heap.get?_push_of_some _ hS1) (λ h' tk acc c' k e ea => ⟨h', tk, acc, c', rfl, rfl, e, ea, λ b u h1 h2 q => k b u h1 h2 (Heap.get?_push_of_some _ (Heap.get?_push_of_some _ q))⟩) (by rw [p.length_eq, List.length_map, Array.length_toList])) ?_ λ _ _ e => e
  have tail : ∀ r s', EndC s a ws (s.heap.push { cls := .type "list", data := .seq ([] : List Value).toArray }).objs.size s.drawn r s' -> ∃ h' tk acc c', r = .ok (.ret (.ref s.heap.objs.size)) /\ s' = { s with heap := h', toks := tk } /\ h'.get? s.heap.objs.size = some { cls := .type "list", dict := none, data := .seq acc c', slots := #[] } /\ Q acc.toList s' := λ r s' ⟨h', tk, acc, c', e1, e2, e, ea, k⟩ => by
   obtain ⟨q1, q2⟩ := hInts ws p
   refine ⟨h', tk, acc, c', e1, e2, e, ?_⟩
   rw [ea, e2]
   refine h ws h' tk s.drawn q1 q2 (λ b u q => k b u (Nat.ne_of_lt (Heap.lt_size q)) ?_ q) (Heap.lt_size e)
   rw [Heap.size_push]
   exact Nat.ne_of_lt (Nat.lt_succ_of_lt (Heap.lt_size q))
  intro fin s' hf'
  cases fin with
  | done f =>
   obtain ⟨h', tk, acc, c', e1, e2, e, hq⟩ := tail _ _ hf'
   cases e1
   subst e2
   exact wpAny_bind (wpAny_load e (wpAny_pure hq))
  | again c' =>
   refine ⟨hf'.1, codeAny_mono hf'.2 λ r s' hr => ?_⟩
   obtain ⟨h', tk, acc, c', e1, e2, e, hq⟩ := tail _ _ hr
   subst e1
   subst e2
   exact wpAny_bind (wpAny_load e (wpAny_pure hq))
 ·intro l d hot pl
  have z1 : (s.heap.push { cls := .type "list", data := .seq ([] : List Value).toArray }).objs.size = s.heap.objs.size + 1 := Heap.size_push _ _
  have hl : l.length = es.size := by rw [pl.length_eq, List.length_range]
  have p : (l.map λ i => (es.getD i (0, .none)).2).Perm (es.toList.map (·.2)) := by
   refine (pl.map _).trans (List.Perm.of_eq ?_)
   refine List.ext_getElem? λ j => ?_
   have e1 : es.toList[j]? = es[j]? := Array.getElem?_toList
   rw [List.getElem?_map, List.getElem?_map, e1]
   by_cases hj : j < es.size
   ·rw [List.getElem?_range hj, Option.map_some, Array.getD_eq_getD_getElem?, Array.getElem?_eq_getElem hj]
    rfl
   ·have e2 : (List.range es.size)[j]? = none := List.getElem?_eq_none (by rw [List.length_range]; omega)
    rw [e2, Array.getElem?_eq_none (by omega)]
    rfl
  have hne : a ≠ (s.heap.push { cls := .type "list", data := .seq ([] : List Value).toArray }).objs.size + 1 := by rw [z1]; exact Nat.ne_of_lt (Nat.lt_succ_of_lt (Nat.lt_succ_of_lt hat))
  have hqe : (s.heap.push { cls := .type "list", data := .seq ([] : List Value).toArray }).objs.size ≠ (s.heap.push { cls := .type "list", data := .seq ([] : List Value).toArray }).objs.size + 1 := Nat.ne_of_lt (Nat.lt_succ_self _)
  have hSf : s.heap.objs.size ∉ [(s.heap.push { cls := .type "list", data := .seq ([] : List Value).toArray }).objs.size + 1, a, (s.heap.push { cls := .type "list", data := .seq ([] : List Value).toArray }).objs.size] := λ z => by
   rw [z1] at z
   rcases List.mem_cons.mp z with z | z
   ·exact absurd z (Nat.ne_of_lt (Nat.lt_succ_of_lt (Nat.lt_succ_self _)))
   ·rcases List.mem_cons.mp z with z | z
    ·exact absurd z (Nat.ne_of_gt hat)
    ·exact absurd (List.mem_singleton.mp z) (Nat.ne_of_lt (Nat.lt_succ_self _))
  have W := q8I (prog := prog) (w := w) (ep := ep) (t := t) pl hf hne hqe
  have hI : q1e (((s.heap.push { cls := .type "list", data := .seq ([] : List Value).toArray }).push (q9E l)).push (q7k (.ref (s.heap.push { cls := .type "list", data := .seq ([] : List Value).toArray }).objs.size) a es.size ep))
    ((s.heap.push { cls := .type "list", data := .seq ([] : List Value).toArray }).objs.size + 1) a (.ref (s.heap.push { cls := .type "list", data := .seq ([] : List Value).toArray }).objs.size) 0 es.size ep := by
   have := q5G (a := a) (ep := ep) (h := (s.heap.push { cls := .type "list", data := .seq ([] : List Value).toArray }).push (q9E l)) (f := .ref (s.heap.push { cls := .type "list", data := .seq ([] : List Value).toArray }).objs.size) (n := es.size)
   have z2 : ((s.heap.push { cls := .type "list", data := .seq ([] : List Value).toArray }).push (q9E l)).objs.size = (s.heap.push { cls := .type "list", data := .seq ([] : List Value).toArray }).objs.size + 1 := Heap.size_push _ _
   rw [z2] at this
   exact this
  refine wpAny_mono (q7T (A := A) (a := a) (c0 := 0) (s1 := { s with heap := ((s.heap.push { cls := .type "list", data := .seq ([] : List Value).toArray }).push (q9E l)).push (q7k (.ref (s.heap.push { cls := .type "list", data := .seq ([] : List Value).toArray }).objs.size) a es.size ep), drawn := d }) (R := EndC s a (l.map λ i => (es.getD i (0, .none)).2) ((s.heap.push { cls := .type "list", data := .seq ([] : List Value).toArray }).objs.size + 1) d)
   W hh hz hSf ⟨o, Heap.get?_push_of_some _ (Heap.get?_push_of_some _ (Heap.get?_push_of_some _ ho)), hx.1⟩ ⟨hI, hA1.at λ _ e => Heap.get?_push_of_some _ (Heap.get?_push_of_some _ e), ⟨_, Heap.get?_push_of_some _ (Heap.get?_push_size _ rfl), rfl, _, rfl⟩⟩ (Heap.get?_push_of_some _ (Heap.get?_push_of_some _ hS1)) (λ h' tk acc c' k e ea => ⟨h', tk, acc, c', rfl, rfl, e, ea, λ b u h1 h2 q => k b u h1 h2 (Heap.get?_push_of_some _ (Heap.get?_push_of_some _ (Heap.get?_push_of_some _ q)))⟩) (by rw [p.length_eq, List.length_map, Array.length_toList])) ?_ λ _ _ e => e
  have tail : ∀ r s', EndC s a (l.map λ i => (es.getD i (0, .none)).2) ((s.heap.push { cls := .type "list", data := .seq ([] : List Value).toArray }).objs.size + 1) d r s' -> ∃ h' tk acc c', r = .ok (.ret (.ref s.heap.objs.size)) /\ s' = { s with heap := h', toks := tk, drawn := d } /\ h'.get? s.heap.objs.size = some { cls := .type "list", dict := none, data := .seq acc c', slots := #[] } /\ Q acc.toList s' := λ r s' ⟨h', tk, acc, c', e1, e2, e, ea, k⟩ => by
   obtain ⟨q1, q2⟩ := hInts _ p
   refine ⟨h', tk, acc, c', e1, e2, e, ?_⟩
   rw [ea, e2]
   refine h _ h' tk d q1 q2 (λ b u q => k b u (Nat.ne_of_lt (Heap.lt_size q)) ?_ q) (Heap.lt_size e)
   rw [z1]
   exact Nat.ne_of_lt (Nat.lt_succ_of_lt (Nat.lt_succ_of_lt (Heap.lt_size q)))
  intro fin s' hf'
  cases fin with
  | done f =>
   obtain ⟨h', tk, acc, c', e1, e2, e, hq⟩ := tail _ _ hf'
   cases e1
   subst e2
   exact wpAny_bind (wpAny_load e (wpAny_pure hq))
  | again c' =>
   refine ⟨hf'.1, codeAny_mono hf'.2 λ r s' hr => ?_⟩
   obtain ⟨h', tk, acc, c', e1, e2, e, hq⟩ := tail _ _ hr
   subst e1
   subst e2
   exact wpAny_bind (wpAny_load e (wpAny_pure hq))
theorem q8N {Q : Value -> Shared -> Prop} (hh : A.handled = none) (hS : SetI prog w s.heap a ks) (h64 : ks.length < 64)
  (h : ∀ h' tk d p vs ns e, (∀ b o, s.heap.get? b = some o -> h'.get? b = some o) -> s.heap.objs.size <= p -> h'.get? p = some (seqObj "list" vs e) -> IntsAre vs.toList ns -> ns.Perm ks -> ns.Pairwise (· <= ·) -> Q (.ref p) { s with heap := h', toks := tk, drawn := d }) :
  wpAny (model prog w) A (call (.builtin "sorted") [.ref a]) Q E s := by
 refine Calls.call_function_entry kind_sorted plain_sorted entry_sorted (args_sorted1 _) ?_
 unfold Builtin.«sorted»
 refine wpAny_bind (m := checkCount "sorted" 1 1 _) (wpAny_pure ?_)
 refine wpAny_bind (q6M (by exact hh) hS λ vs h1 tk d i1 p1 k1 z1 => ?_)
 have hl : vs.length < 64 := by
  have := p1.length_eq
  rw [List.length_map] at this
  omega
 refine wpAny_bind (wpAny_newList ?_ (by rw [sizeLine_eq]; omega))
 have hL : (h1.push (seqObj "list" vs.toArray 0)).get? h1.objs.size = some (seqObj "list" vs.toArray 0) := Heap.get?_push_size _ rfl
 refine wpAny_bind (wpAny_holding (wpAny_call_entry slot_list_sort ⟨_, hL, rfl⟩ entry_list_sort (list_sort_tree hL i1 hl λ out ns q1 q2 q3 => ⟨_, rfl, ?_⟩) (args_list_sort _)))
 refine wpAny_pure ⟨_, rfl, ?_⟩
 obtain ⟨e, he⟩ := sortedHeap_at (out := out) hL
 refine h _ tk d _ out ns e (λ b o q => ?_) (Nat.le_of_lt z1) he q1 (q2.trans p1) q3
 have hb := Heap.lt_size (k1 b o q)
 rw [sortedHeap_old (Nat.ne_of_lt hb) (by rw [size_push']; exact Nat.lt_succ_of_lt hb)]
 exact Heap.get?_push_of_some _ (k1 b o q)
end
end L2
end
section
namespace L2
open PySem PySem.Spec PyProof.Rows
section
variable {prog : Program} {w : World} {A : Around} {E : Value -> Shared -> Prop} {s : Shared}
theorem z3G {l : List Int} {i : Nat} (h : i < l.length) : l.getD i 0 ∈ l := by
 rw [List.getD_eq_getElem?_getD, List.getElem?_eq_getElem h]
 exact List.getElem_mem h
theorem minL {l : Addr} {vs : List Value} {ns : List Int} {Q : Value -> Shared -> Prop} (hh : A.handled = none) (hl : s.heap.IsList l vs.toArray) (hi : IntsAre vs ns) (hz : ns ≠ [])
  (h : ∀ h' M (t : Tok) tk, (∀ b o, s.heap.get? b = some o -> h'.get? b = some o) -> M ∈ ns -> (∀ a ∈ ns, M <= a) -> Q (.int M t) { s with heap := h', toks := tk }) : wpAny (model prog w) A (call (.builtin "min") [.ref l]) Q E s := by
 obtain ⟨ys, e⟩ := hi.allInts.items
 have en : ns = ys.toList.map (·.1) := by rw [<- hi.numsOf, <- nums_intItems, <- e]
 have zy : 0 < ys.size := by
  have q : 0 < ns.length := List.length_pos_iff.mpr hz
  rwa [en, List.length_map, Array.length_toList] at q
 rw [e] at hl
 refine min_intList hh hl zy λ v h1 tk q k => ?_
 obtain ⟨t, ev⟩ := intItems_at q
 subst ev
 obtain ⟨g1, g2⟩ := argBest_lt (numAt ys) (ys.size - 1)
 refine h h1 _ t tk k ?_ λ a ha => ?_
 ·rw [en, numAt_eq]
  exact z3G (by rw [List.length_map, Array.length_toList]; omega)
 ·rw [en] at ha
  obtain ⟨j, hj, ej⟩ := mem_getD ha
  subst ej
  rw [List.length_map, Array.length_toList] at hj
  rw [<- numAt_eq]
  exact g2 j (by omega)
theorem maxL {l : Addr} {vs : List Value} {ns : List Int} {Q : Value -> Shared -> Prop} (hh : A.handled = none) (hl : s.heap.IsList l vs.toArray) (hi : IntsAre vs ns) (hz : ns ≠ [])
  (h : ∀ h' M (t : Tok) tk, (∀ b o, s.heap.get? b = some o -> h'.get? b = some o) -> M ∈ ns -> (∀ a ∈ ns, a <= M) -> Q (.int M t) { s with heap := h', toks := tk }) : wpAny (model prog w) A (call (.builtin "max") [.ref l]) Q E s := by
 obtain ⟨ys, e⟩ := hi.allInts.items
 have en : ns = ys.toList.map (·.1) := by rw [<- hi.numsOf, <- nums_intItems, <- e]
 have zy : 0 < ys.size := by
  have q : 0 < ns.length := List.length_pos_iff.mpr hz
  rwa [en, List.length_map, Array.length_toList] at q
 rw [e] at hl
 refine max_intList hh hl zy λ v h1 tk q k => ?_
 obtain ⟨t, ev⟩ := intItems_at q
 subst ev
 obtain ⟨g1, g2⟩ := argBest_gt (numAt ys) (ys.size - 1)
 refine h h1 _ t tk k ?_ λ a ha => ?_
 ·rw [en, numAt_eq]
  exact z3G (by rw [List.length_map, Array.length_toList]; omega)
 ·rw [en] at ha
  obtain ⟨j, hj, ej⟩ := mem_getD ha
  subst ej
  rw [List.length_map, Array.length_toList] at hj
  rw [<- numAt_eq]
  exact g2 j (by omega)
theorem extL {l b : Addr} {items new : Array Value} {n : Nat} {Q : Value -> Shared -> Prop} (e : s.heap.get? l = some { cls := .type "list", data := .seq items n }) (hb : s.heap.IsList b new \/ IsTup s.heap b new) (hz : items.size + new.size <= sizeLine)
  (h : Q .none { s with heap := s.heap.update l (Obj.mapSeq (· ++ new)) }) : wpAny (model prog w) A (call (.builtin "list.extend") [.ref l, .ref b]) Q E s := by
 have ht : s.TypeIs (.ref l) "list" := ⟨_, e, rfl⟩
 refine wpAny_call_entry F.slot_list_extend ht F.entry_list_extend ?_ (F.args_list_extend_2 _ _)
 unfold Builtin.«list.extend»
 refine wpAny_bind (wpAny_pure ?_)
 show wpAny (model prog w) _ (Builtin.List.listExtendWith (.ref l) (.ref b) .none) _ _ _
 unfold Builtin.List.listExtendWith
 obtain ⟨ob, eb, T, hT, n2, hd⟩ : ∃ ob, s.heap.get? b = some ob /\ ∃ T : String, (ob.cls = .type T /\ (T = "list" \/ T = "tuple")) /\ ∃ n2, ob.data = .seq new n2 := by
  rcases hb with ⟨o, a1, a2, a3, a4⟩ | ⟨o, a1, a2, a3, a4⟩
  ·exact ⟨o, a1, "list", ⟨a2, .inl rfl⟩, a3, a4⟩
  ·exact ⟨o, a1, "tuple", ⟨a2, .inr rfl⟩, a3, a4⟩
 refine wpAny_bind (wpAny_typeOf (T := T) ⟨ob, eb, hT.1⟩ ?_)
 have c : (Builtin.List.listSameRef (.ref l) (.ref b) || Value.type T == .type "list" || Value.type T == .type "tuple") = true := by
  rcases hT.2 with z | z <;> subst z
  ·rw [show (Value.type "list" == Value.type "list") = true by decide, Bool.or_true, Bool.true_or]
  ·rw [show (Value.type "tuple" == Value.type "tuple") = true by decide, Bool.or_true]
 rw [if_pos c]
 refine wpAny_bind (listItems_at eb hd (wpAny_bind (listItems_at e rfl ?_)))
 rw [if_neg (by rw [q7F hz, Bool.and_false]; exact Bool.false_ne_true)]
 refine wpAny_bind (listUpdate_at e rfl ?_ (by omega) (by show (items ++ new).size <= _; rw [Array.size_append]; omega))
 exact wpAny_pure ⟨_, rfl, h⟩
end
section
variable {X : Cx} {pos : Pos}
noncomputable def z7Z (K : PySem.W.Frag) : V -> List V -> Hp -> VK -> Prop := λ x vs H Q => ∃ l b xs zs, x = .ref l /\ vs = [.ref b] /\ H l = some (.lst xs) /\ (SqL K H b zs \/ SqT K H b zs) /\ xs.length + zs.length <= sizeLine /\ Q .non (upd H l (.lst (xs ++ zs)))
theorem z5R : MtM X "list.extend" (z7Z X.K) := by
 intro pins s σ H x vs v us Q I rx rv h
 obtain ⟨l, b, xs, zs, rfl, rfl, hH, hB, hz, q⟩ := h
 cases rx
 obtain ⟨u, rfl, ru⟩ := rv.one
 cases ru
 obtain ⟨z, its, n, r, hl, e⟩ := I.lstM hH
 obtain ⟨its2, r2, ob⟩ : ∃ its2 : List Value, Vals zs its2 /\ (s.heap.IsList b its2.toArray \/ IsTup s.heap b its2.toArray) := by
  rcases hB with hB | hB
  ·obtain ⟨its2, r2, pl, _⟩ := I.list hB
   exact ⟨its2, r2, .inl pl.isList⟩
  ·obtain ⟨its2, r2, pl, _⟩ := I.tuple hB
   exact ⟨its2, r2, .inr pl⟩
 have e2 := r2.length
 refine extL e ob (by rw [List.size_toArray, List.size_toArray]; omega) ?_
 refine ⟨.non, _, I.lset (its' := its ++ its2) (t' := s.toks) hH e (by simp) (r.append r2) ?_, rfl, q⟩
 rw [List.length_append]
 omega
theorem q9R : ∀ {ns : List Int} {us : List Value}, Vals (ns.map V.int) us -> IntsAre us ns
 | [], us, h => by cases h; exact .nil
 | n :: ns, us, h => by
  cases h with
  | cons r t =>
   obtain ⟨tk, rfl⟩ := r
   exact .cons n tk (q9R t)
theorem z5q : ∀ {ns : List Int} {us : List Value}, IntsAre us ns -> Vals (ns.map V.int) us
 | _, _, .nil => .nil
 | _, _, .cons n t h => .cons ⟨t, rfl⟩ (z5q h)
theorem q9l (hc : X.calm = true) : q1o X (.builtin "min") (λ xs H Q => ∃ (a : Addr) (ns : List Int), xs = [.ref a] /\ SqL X.K H a (ns.map V.int) /\ ns ≠ [] /\ ∀ M, M ∈ ns -> (∀ x ∈ ns, M <= x) -> Q (.int M) H) := by
 intro pins s σ H xs us Q I r h
 obtain ⟨a, ns, rfl, hq, hz, q⟩ := h
 obtain ⟨u, rfl, r1⟩ := q3S r
 cases r1
 obtain ⟨its, rv, pl, _⟩ := I.list hq
 exact minL (I.ok.hd hc) pl.isList (q9R rv) hz λ h' M t tk k m1 m2 => ⟨.int M, H, I.kept k, ⟨t, rfl⟩, q M m1 m2⟩
theorem z0E (hc : X.calm = true) : q1o X (.builtin "max") (λ xs H Q => ∃ (a : Addr) (ns : List Int), xs = [.ref a] /\ SqL X.K H a (ns.map V.int) /\ ns ≠ [] /\ ∀ M, M ∈ ns -> (∀ x ∈ ns, x <= M) -> Q (.int M) H) := by
 intro pins s σ H xs us Q I r h
 obtain ⟨a, ns, rfl, hq, hz, q⟩ := h
 obtain ⟨u, rfl, r1⟩ := q3S r
 cases r1
 obtain ⟨its, rv, pl, _⟩ := I.list hq
 exact maxL (I.ok.hd hc) pl.isList (q9R rv) hz λ h' M t tk k m1 m2 => ⟨.int M, H, I.kept k, ⟨t, rfl⟩, q M m1 m2⟩
noncomputable def setO (P : Program) (w : World) (a : Addr) (ks : List Int) : HO := .ext λ h => SetI P w h a ks
theorem z3p {P : Program} {w : World} {H : Hp} {h : Heap} {a : Addr} {ks : List Int} (x : SetI P w h a ks) : q1v P w H h a (setO P w a ks) :=
 ⟨x, let ⟨o, _, _, _, e, _⟩ := x; ⟨o, e⟩, λ h1 h2 q k => q.at k⟩
theorem z3U (ns : List Int) : fm (λ i => ns.getD i 0) ns.length = ns.foldl dk [] := by
 unfold fm
 congr 1
 refine List.ext_getElem? λ j => ?_
 rw [List.getElem?_map]
 by_cases hj : j < ns.length
 ·rw [List.getElem?_range hj, Option.map_some, List.getD_eq_getElem?_getD, List.getElem?_eq_getElem hj]
  rfl
 ·rw [List.getElem?_eq_none (by rw [List.length_range]; omega), List.getElem?_eq_none (by omega)]
  rfl
theorem z0M (hc : X.calm = true) : q1o X (.type "set") (λ xs H Q => ∃ (a : Addr) (ns : List Int), xs = [.ref a] /\ SqL X.K H a (ns.map V.int) /\ ns.length < 4000 /\ ∀ p, H p = none -> Q (.ref p) (upd H p (setO X.prog X.w p (ns.foldl dk [])))) := by
 intro pins s σ H xs us Q I r h
 obtain ⟨a, ns, rfl, hq, hz, q⟩ := h
 obtain ⟨u, rfl, r1⟩ := q3S r
 cases r1
 obtain ⟨its, rv, pl, _⟩ := I.list hq
 have hi := q9R rv
 have hl : its.length = ns.length := by rw [<- rv.length, List.length_map]
 refine z5b (I.ok.hd hc) pl.isList hi (by rw [List.size_toArray, hl]; show _ < 4096; omega) λ h' tk S k => ?_
 have hz2 : its.toArray.size = ns.length := by rw [List.size_toArray, hl]
 rw [hz2, z3U] at S
 exact ⟨.ref s.heap.objs.size, _, I.laid k (Nat.le_refl _) (z3p S), rfl, q _ I.fresh⟩
theorem q8P (hc : X.calm = true) : q1o X (.builtin "sorted") (λ xs H Q => ∃ (p : Addr) (ks : List Int), xs = [.ref p] /\ H p = some (setO X.prog X.w p ks) /\ ks.length < 64 /\ ∀ (q : Addr) (ms : List Int), H q = none -> ms.Perm ks -> ms.Pairwise (· <= ·) -> Q (.ref q) (upd H q (.lst (ms.map V.int)))) := by
 intro pins s σ H xs us Q I r h
 obtain ⟨p, ks, rfl, hH, hz, q⟩ := h
 obtain ⟨u, rfl, r1⟩ := q3S r
 cases r1
 have S : SetI X.prog X.w s.heap p ks := (I.hok p _ hH).1
 refine q8N (I.ok.hd hc) S hz λ h' tk d p' vs ns e k hp he hi hpm hpw => ?_
 have hv := z5q hi
 have hl : ns.length <= sizeLine := by
  rw [hpm.length_eq, sizeLine_eq]
  omega
 have ok : q1v X.prog X.w (upd H p' (.lst (ns.map V.int))) h' p' (.lst (ns.map V.int)) := ⟨by rw [List.length_map]; exact hl, vs.toList, e, hv, by rw [Array.toArray_toList]; exact he⟩
 have I1 := I.laid (t' := tk) k hp ok
 refine ⟨.ref p', _, ?_, rfl, q p' ns (I.hok.fresh hp) hpm hpw⟩
 exact ⟨I1.ok, I1.os, I1.bare, I1.base, I1.loc, I1.cell, I1.free, I1.freeC, I1.pin, I1.hok, I1.len⟩
end
end L2
end
section
namespace L2
open PySem PySem.Spec PySem.Calls PyProof.Rows PySem.W
section
variable {prog : Program} {w : World} {A : Around} {E : Value -> Shared -> Prop} {s : Shared}
theorem q6D {t : Addr} {xs : Array (Int × Tok)} {Q : Value -> Shared -> Prop} (hh : A.handled = none) (ht : s.heap.IsTuple t (intItems xs)) (hne : 0 < xs.size)
  (h : ∀ v h' tk, (intItems xs)[argBest (λ i j => decide (numAt xs i < numAt xs j)) (xs.size - 1)]? = some v -> (∀ b o, s.heap.get? b = some o -> h'.get? b = some o) -> Q v { s with heap := h', toks := tk }) :
  wpAny (model prog w) A (call (.builtin "min") [.ref t]) Q E s := by
 obtain ⟨o, ho, hc, n, hd⟩ := id ht
 have hlt : t < s.heap.objs.size := Heap.lt_size ho
 refine call_min_walk (wpAny_pyIter_tuple ht ?_)
 refine ⟨_, _, _, _, _, _, _, rfl, Walks.tuple (A := A.in1) hh _ t (Nat.ne_of_lt hlt) (intItems xs), ⟨⟨_, Heap.get?_push_size _ rfl, rfl, rfl⟩, ht.push _⟩, λ b hb => ?_, by simpa [intItems] using hne, CmpOf.ints_lt (numAt xs) (λ _ _ => intItems_at), λ v h' tk hP hk => ?_⟩
 ·show b < (s.heap.push _).objs.size
  rw [Heap.size_push]
  rcases List.mem_cons.mp hb with rfl | hb
  ·exact Nat.lt_succ_self _
  ·rcases List.mem_cons.mp hb with rfl | hb
   ·exact Nat.lt_succ_of_lt hlt
   ·cases hb
 ·refine h v h' tk (by simpa [intItems] using hP) λ b o e => hk b o (λ hm => ?_) (Heap.get?_push_of_some _ e)
  rcases List.mem_cons.mp hm with e1 | hm
  ·exact absurd (e1 ▸ Heap.lt_size e) (Nat.lt_irrefl _)
  ·cases hm
theorem q8w {a b : Addr} {oa ob : Obj} {x1 x2 y1 y2 : Int} {t1 t2 u1 u2 : Tok} {n k : Nat} {Q : Bool -> Shared -> Prop} (ha : s.heap.get? a = some oa) (da : oa.data = .seq #[.int x1 t1, .int x2 t2] n) (hb : s.heap.get? b = some ob) (db : ob.data = .seq #[.int y1 u1, .int y2 u2] k)
  (h : Q (ltP (x1, x2) (y1, y2)) s) : wpAny (model prog w) A (keyLt' (tuples' true) (.ref a) (.ref b)) Q E s := by
 refine kat_lt ha da hb db ?_
 show KatLex prog w A true (decide (2 < 2)) Q [(.int x1 t1, .int y1 u1), (.int x2 t2, .int y2 u2)] 0 s
 unfold ltP at h
 refine kat_cons (wpAny_eqBool_int ?_)
 by_cases h1 : x1 = y1
 ·rw [show (x1 == y1) = true from beq_iff_eq.mpr h1]
  have h' : Q (decide (x2 < y2)) s := by
   rw [show decide (x1 < y1) = false from decide_eq_false (by omega), show (x1 == y1) = true from beq_iff_eq.mpr h1, Bool.false_or, Bool.true_and] at h
   exact h
  refine kat_yes (kat_cons (wpAny_eqBool_int ?_))
  by_cases h2 : x2 = y2
  ·rw [show (x2 == y2) = true from beq_iff_eq.mpr h2]
   refine kat_yes (kat_nil ?_)
   rw [show decide (x2 < y2) = false from decide_eq_false (by omega)] at h'
   exact h'
  ·rw [show (x2 == y2) = false from beq_eq_false_iff_ne.mpr h2]
   refine kat_no ?_
   show wpAny (model prog w) A (oneLt' false (.int x2 t2) (.int y2 u2)) Q (λ _ _ => False) s
   exact kat_one _ _ (wpAny_lt_int h')
 ·rw [show (x1 == y1) = false from beq_eq_false_iff_ne.mpr h1]
  refine kat_no ?_
  show wpAny (model prog w) A (oneLt' true (.int x1 t1) (.int y1 u1)) Q (λ _ _ => False) s
  refine oneLt_int ?_
  rw [show (x1 == y1) = false from beq_eq_false_iff_ne.mpr h1, Bool.false_and, Bool.or_false] at h
  exact h
end
theorem z2y {cmp : Nat -> Nat -> (Bool -> Shared -> Prop) -> Shared -> Prop} {n : Nat} {Q : Nat -> Shared -> Prop} {s : Shared} (hc : ∀ i, i + 1 < n -> ∀ C : Bool -> Shared -> Prop, C false s -> cmp (i + 1) i C s) : ∀ (f m : Nat), 1 <= m -> m + f = n -> Q n s -> (kas_asc (List.toArray (List.range n)) f m).kasWp cmp Q s
 | 0, m, _, h, q => by
  have : m = n := by omega
  subst this
  exact q
 | f + 1, m, h1, h, q => by
  have e1 : (List.toArray (List.range n)).getD m 0 = m := by simp [Array.getD]; omega
  have e2 : (List.toArray (List.range n)).getD (m - 1) 0 = m - 1 := by simp [Array.getD]; omega
  show cmp ((List.toArray (List.range n)).getD m 0) ((List.toArray (List.range n)).getD (m - 1) 0) (λ b s' => (if b = true then KasT.ret m else kas_asc (List.toArray (List.range n)) f (m + 1)).kasWp cmp Q s') s
  rw [e1, e2]
  obtain ⟨i, rfl⟩ : ∃ i, m = i + 1 := ⟨m - 1, by omega⟩
  refine hc i (by omega) _ ?_
  rw [if_neg Bool.false_ne_true]
  exact z2y hc f (i + 2) (by omega) (by omega) q
theorem z2S {cmp : Nat -> Nat -> (Bool -> Shared -> Prop) -> Shared -> Prop} {n : Nat} {G : Array Nat -> Shared -> Prop} {s : Shared} (h2 : 2 <= n) (hc : ∀ i, i + 1 < n -> ∀ C : Bool -> Shared -> Prop, C false s -> cmp (i + 1) i C s) (q : G (List.toArray (List.range n)) s) : (kas_sort n).kasWp cmp G s := by
 unfold kas_sort kas_count
 rw [KasT.kasWp_bind, KasT.kasWp_bind]
 refine z2y hc (n - 1) 1 (Nat.le_refl _) (by omega) ?_
 show (if (n == n) = true then KasT.ret (n, List.toArray (List.range n)) else _).kasWp cmp _ s
 rw [if_pos (beq_self_eq_true n)]
 show (if n < n then _ else KasT.ret (List.toArray (List.range n))).kasWp cmp G s
 rw [if_neg (Nat.lt_irrefl n)]
 exact q
noncomputable def PrAt (h : Heap) (v : Value) (p : Int × Int) : Prop := ∃ a o n t t', v = .ref a /\ h.get? a = some o /\ o.cls = .type "tuple" /\ o.data = .seq #[.int p.1 t, .int p.2 t'] n
noncomputable def q2C (h : Heap) : List Value -> List (Int × Int) -> Prop
 | [], [] => True
 | v :: vs, p :: ps => PrAt h v p /\ q2C h vs ps
 | _, _ => False
theorem PrAt.keep {h h' : Heap} {v : Value} {p : Int × Int} (x : PrAt h v p) (k : ∀ b o, h.get? b = some o -> h'.get? b = some o) : PrAt h' v p := by
 obtain ⟨a, o, n, t, t', e1, e2, e3, e4⟩ := x
 exact ⟨a, o, n, t, t', e1, k _ _ e2, e3, e4⟩
theorem q2C.keep {h h' : Heap} (k : ∀ b o, h.get? b = some o -> h'.get? b = some o) : ∀ {vs : List Value} {ps : List (Int × Int)}, q2C h vs ps -> q2C h' vs ps
 | [], [], _ => trivial
 | _ :: _, _ :: _, x => ⟨x.1.keep k, q2C.keep k x.2⟩
 | [], _ :: _, x => x.elim
 | _ :: _, [], x => x.elim
theorem q2C.keepNe {h h' : Heap} {a : Addr} {xs : Array Value} {n : Nat} (ho : h.get? a = some (seqObj "list" xs n)) (k : ∀ b o, b ≠ a -> h.get? b = some o -> h'.get? b = some o) : ∀ {vs : List Value} {ps : List (Int × Int)}, q2C h vs ps -> q2C h' vs ps
 | [], [], _ => trivial
 | _ :: _, _ :: _, x => by
  obtain ⟨⟨b, o, m, t, t', e1, e2, e3, e4⟩, y⟩ := x
  refine ⟨⟨b, o, m, t, t', e1, k b o (λ z => ?_) e2, e3, e4⟩, y.keepNe ho k⟩
  subst z
  rw [ho] at e2
  cases e2
  exact absurd e3 (by intro z; injection z with z; exact absurd z (by decide))
 | [], _ :: _, x => x.elim
 | _ :: _, [], x => x.elim
theorem q2C.len {h : Heap} : ∀ {vs : List Value} {ps : List (Int × Int)}, q2C h vs ps -> vs.length = ps.length
 | [], [], _ => rfl
 | _ :: _, _ :: _, x => by rw [List.length_cons, List.length_cons, x.2.len]
 | [], _ :: _, x => x.elim
 | _ :: _, [], x => x.elim
theorem q2C.get {h : Heap} : ∀ {vs : List Value} {ps : List (Int × Int)} {i : Nat}, q2C h vs ps -> i < ps.length -> PrAt h (vs.getD i .none) (ps.getD i (0, 0))
 | [], [], _, _, hi => by simp at hi
 | _ :: _, _ :: _, 0, x, _ => x.1
 | _ :: _, _ :: _, i + 1, x, hi => x.2.get (by simpa using hi)
 | [], _ :: _, _, x, _ => x.elim
 | _ :: _, [], _, x, _ => x.elim
theorem q2C.tups {h : Heap} : ∀ {vs : List Value} {ps : List (Int × Int)}, q2C h vs ps -> ∃ fs, KatTups h vs fs /\ fs.length = ps.length /\ ∀ v ∈ fs, ∃ i t, v = Value.int i t
 | [], [], _ => ⟨[], trivial, rfl, λ _ h => nomatch h⟩
 | _ :: _, p :: ps, x => by
  obtain ⟨⟨a, o, n, t, t', rfl, e2, e3, e4⟩, y⟩ := x
  obtain ⟨fs, k1, k2, k3⟩ := y.tups
  refine ⟨.int p.1 t :: fs, KatTups.cons e2 e3 e4 rfl k1, by rw [List.length_cons, List.length_cons, k2], λ v hv => ?_⟩
  rcases List.mem_cons.mp hv with q | q
  ·exact ⟨_, _, q⟩
  ·exact k3 v q
 | [], _ :: _, x => x.elim
 | _ :: _, [], x => x.elim
theorem q6C : ∀ {ps : List (Int × Int)} {i : Nat}, q1E ps = true -> i + 1 < ps.length -> ltP (ps.getD (i + 1) (0, 0)) (ps.getD i (0, 0)) = false
 | [], _, _, h => by simp at h
 | [_], _, _, h => by simp at h
 | p :: q :: r, i, hr, h => by
  have hr' : (ltP p q && q1E (q :: r)) = true := hr
  rw [Bool.and_eq_true] at hr'
  cases i with
  | zero =>
   show ltP q p = false
   have := hr'.1
   unfold ltP at this ⊢
   rw [Bool.or_eq_true, decide_eq_true_iff, Bool.and_eq_true, beq_iff_eq, decide_eq_true_iff] at this
   rw [Bool.or_eq_false_iff, decide_eq_false_iff_not, Bool.and_eq_false_iff, beq_eq_false_iff_ne, decide_eq_false_iff_not]
   omega
  | succ i => exact q6C (ps := q :: r) hr'.2 (by simpa using h)
section
variable {prog : Program} {w : World} {A : Around} {E : Value -> Shared -> Prop} {s : Shared}
theorem q8s {a : Addr} {vs : List Value} {ps : List (Int × Int)} {n : Nat} {P : PySem.Fin -> Shared -> Prop} (ho : s.heap.get? a = some (seqObj "list" vs.toArray n)) (hp : q2C s.heap vs ps) (hr : q1E ps = true) (h64 : ps.length < 64)
  (h : P (.done (.ret .none)) { s with heap := sortedHeap s.heap a vs vs.toArray }) : wpAny (model prog w) A (Builtin.«list.sort» ⟨[.ref a], []⟩) P E s := by
 have hl := hp.len
 rw [list_sort_plain]
 have ha : a < s.heap.objs.size := Heap.lt_size ho
 refine wpAny_bind (listItems_at ho rfl ?_)
 refine wpAny_bind (listUpdate_at ho rfl ?_ (by rw [List.size_toArray, sizeLine_eq]; omega) (Nat.zero_le _))
 obtain ⟨e1, ho1⟩ : ∃ e1, (s.heap.update a (Obj.mapSeq λ _ => (#[] : Array Value))).get? a = some (seqObj "list" #[] e1) := ⟨_, get?_update_seq ho λ _ => #[]⟩
 refine wpAny_bind (seqEpoch_at ho1 rfl ?_)
 refine wpAny_bind (wpAny_newTuple ?_ (by show vs.length <= _; rw [sizeLine_eq]; omega))
 refine wpAny_bind (wpAny_newList ?_ (Nat.zero_le _))
 refine wpAny_holding ?_
 have ho6 : (((s.heap.update a (Obj.mapSeq λ _ => (#[] : Array Value))).push (seqObj "tuple" vs.toArray 0)).push (seqObj "list" #[] 0)).get? a = some (seqObj "list" #[] e1) := by
  rw [Heap.get?_push_ne _ _ _ (by rw [size_push', Heap.size_update]; exact Nat.ne_of_lt (Nat.lt_succ_of_lt ha)), Heap.get?_push_ne _ _ _ (by rw [Heap.size_update]; exact Nat.ne_of_lt ha)]
  exact ho1
 show wpAny (model prog w) A _ P E { s with heap := ((s.heap.update a (Obj.mapSeq λ _ => (#[] : Array Value))).push (seqObj "tuple" vs.toArray 0)).push (seqObj "list" #[] 0) }
 dsimp only
 have zp : (vs.toArray.zip vs.toArray).map (·.2) = vs.toArray := by
  apply Array.ext (by simp)
  intro i h1 h2
  simp
 by_cases h2 : vs.toArray.size < 2
 ·rw [if_pos h2, if_pos h2]
  refine wpAny_bind (wpAny_pure ?_)
  rw [StateT.run_pure]
  refine wpAny_bind (wpAny_pure ?_)
  dsimp only
  refine wpAny_bind (seqEpoch_at ho6 rfl ?_)
  have ez : (arrOf (SortSt.mk' general' (vs.toArray.zip vs.toArray) #[] 7 none)).map (·.2) = vs.toArray := zp
  rw [ez]
  refine wpAny_bind (listUpdate_at ho6 rfl ?_ (Nat.zero_le _) (by rw [List.size_toArray, sizeLine_eq]; omega))
  simp only [bne_self_eq_false, Bool.false_eq_true, if_false]
  exact wpAny_pure h
 ·rw [if_neg h2, if_neg h2]
  rw [List.size_toArray] at h2
  have keep : ∀ b o, b ≠ a -> s.heap.get? b = some o -> (((s.heap.update a (Obj.mapSeq λ _ => (#[] : Array Value))).push (seqObj "tuple" vs.toArray 0)).push (seqObj "list" #[] 0)).get? b = some o := λ b o hb e => by
   have hbl := Heap.lt_size e
   rw [Heap.get?_push_ne _ _ _ (by rw [size_push', Heap.size_update]; exact Nat.ne_of_lt (Nat.lt_succ_of_lt hbl)), Heap.get?_push_ne _ _ _ (by rw [Heap.size_update]; exact Nat.ne_of_lt hbl), Heap.get?_update_ne _ _ _ _ hb]
   exact e
  have hp' := hp.keepNe ho keep
  obtain ⟨fs, k1, k2, k3⟩ := hp'.tups
  refine wpAny_bind (kat_kind (T := .type "int") k1 (by omega) (λ v hv => ?_) rfl ?_)
  ·obtain ⟨i, t, rfl⟩ := k3 v hv
   exact .now
  refine wpAny_bind (wpAny_mono (kat_run (κ := tuples' true) (ks := vs) (vs := vs) (Q := λ st' s' => arrOf st' = vs.toArray.zip vs.toArray /\ failedOf st' = none /\ s' = { s with heap := ((s.heap.update a (Obj.mapSeq λ _ => (#[] : Array Value))).push (seqObj "tuple" vs.toArray 0)).push (seqObj "list" #[] 0) })
   (G := λ p s' => p = List.toArray (List.range vs.length) /\ s' = { s with heap := ((s.heap.update a (Obj.mapSeq λ _ => (#[] : Array Value))).push (seqObj "tuple" vs.toArray 0)).push (seqObj "list" #[] 0) })
   rfl (by omega) (by omega) (λ p st' s' a1 a2 a3 a4 => ⟨?_, a3, a4.2⟩) (z2S (by omega) (λ i hi C hC => ?_) ⟨rfl, rfl⟩)) ?_ λ _ _ e => e)
  ·rw [a2, a4.1]
   have e := kas_range (vs.toArray.zip vs.toArray)
   rw [show (vs.toArray.zip vs.toArray).size = vs.length by simp] at e
   exact e
  ·obtain ⟨b1, o1, n1, t1, t1', f1, f2, f3, f4⟩ := hp'.get (i := i + 1) (by omega)
   obtain ⟨b2, o2, n2, t2, t2', g1, g2, g3, g4⟩ := hp'.get (i := i) (by omega)
   show wpAny (model prog w) A (keyLt' (tuples' true) (vs.getD (i + 1) .none) (vs.getD i .none)) C (λ _ _ => False) _
   rw [f1, g1]
   refine q8w f2 f4 g2 g4 ?_
   rw [q6C hr (by omega)]
   exact hC
  ·rintro ⟨⟨⟩, st'⟩ s' ⟨har, hf, rfl⟩
   dsimp only
   refine wpAny_bind (seqEpoch_at ho6 rfl ?_)
   rw [har, zp]
   refine wpAny_bind (listUpdate_at ho6 rfl ?_ (Nat.zero_le _) (by rw [List.size_toArray, sizeLine_eq]; omega))
   rw [hf]
   simp only [bne_self_eq_false, Bool.false_eq_true, if_false]
   exact wpAny_pure h
theorem q5X {l : Addr} {vs : List Value} {ps : List (Int × Int)} {Q : Value -> Shared -> Prop} (hl : s.heap.IsList l vs.toArray) (hp : q2C s.heap vs ps) (hr : q1E ps = true) (h64 : ps.length < 64)
  (h : ∀ h' p e, (∀ b o, s.heap.get? b = some o -> h'.get? b = some o) -> s.heap.objs.size <= p -> h'.get? p = some (seqObj "list" vs.toArray e) -> Q (.ref p) { s with heap := h' }) :
  wpAny (model prog w) A (call (.builtin "sorted") [.ref l]) Q E s := by
 have hz := hp.len
 refine Calls.call_function_entry kind_sorted plain_sorted entry_sorted (args_sorted1 _) ?_
 unfold Builtin.«sorted»
 refine wpAny_bind (m := checkCount "sorted" 1 1 _) (wpAny_pure ?_)
 refine wpAny_bind (collect_list hl ?_ (by rw [sizeLine_eq]; omega))
 refine wpAny_bind (wpAny_newList ?_ (by rw [sizeLine_eq]; omega))
 have hsz : ((s.heap.push (seqObj "list" #[] 0)).update s.heap.objs.size (Obj.mapSeq (· ++ vs.toArray))).objs.size = s.heap.objs.size + 1 := by
  rw [Heap.size_update, size_push']
 have hoL : (((s.heap.push (seqObj "list" #[] 0)).update s.heap.objs.size (Obj.mapSeq (· ++ vs.toArray))).push (seqObj "list" vs.toArray 0)).get? (s.heap.objs.size + 1) = some (seqObj "list" vs.toArray 0) := by
  rw [<- hsz]; exact Heap.get?_push_size _ rfl
 have keep : ∀ b o, s.heap.get? b = some o -> (((s.heap.push (seqObj "list" #[] 0)).update s.heap.objs.size (Obj.mapSeq (· ++ vs.toArray))).push (seqObj "list" vs.toArray 0)).get? b = some o := λ b o q => by
  have hlt : b < s.heap.objs.size := Heap.lt_size q
  rw [Heap.get?_push_ne _ _ _ (by rw [hsz]; exact Nat.ne_of_lt (Nat.lt_succ_of_lt hlt)), Heap.get?_update_ne _ _ _ _ (Nat.ne_of_lt hlt), Heap.get?_push_ne _ _ _ (Nat.ne_of_lt hlt)]
  exact q
 show wpAny _ _ _ _ _ { s with heap := ((s.heap.push (seqObj "list" #[] 0)).update s.heap.objs.size (Obj.mapSeq (· ++ vs.toArray))).push (seqObj "list" vs.toArray 0) }
 rw [hsz]
 refine wpAny_bind (wpAny_holding (wpAny_call_entry slot_list_sort ⟨_, hoL, rfl⟩ entry_list_sort (q8s (s := { s with heap := ((s.heap.push (seqObj "list" #[] 0)).update s.heap.objs.size (Obj.mapSeq (· ++ vs.toArray))).push (seqObj "list" vs.toArray 0) }) hoL (hp.keep keep) hr h64 ⟨_, rfl, ?_⟩) (args_list_sort _)))
 refine wpAny_pure ⟨_, rfl, ?_⟩
 obtain ⟨e, he⟩ := sortedHeap_at (out := vs.toArray) hoL
 refine h _ _ e (λ b o q => ?_) (Nat.le_succ _) he
 have hlt : b < s.heap.objs.size := Heap.lt_size q
 rw [sortedHeap_old (Nat.ne_of_lt (Nat.lt_succ_of_lt hlt)) (by rw [size_push', hsz]; exact Nat.lt_succ_of_lt (Nat.lt_succ_of_lt hlt))]
 exact keep b o q
end
end L2
end
section
namespace L2
open PySem PySem.Spec PyProof.Rows
section
variable {prog : Program} {w : World} {A : Around} {E : Value -> Shared -> Prop} {s : Shared}
theorem minT {l : Addr} {vs : List Value} {ns : List Int} {Q : Value -> Shared -> Prop} (hh : A.handled = none) (hl : s.heap.IsTuple l vs.toArray) (hi : IntsAre vs ns) (hz : ns ≠ [])
  (h : ∀ h' M (t : Tok) tk, (∀ b o, s.heap.get? b = some o -> h'.get? b = some o) -> M ∈ ns -> (∀ a ∈ ns, M <= a) -> Q (.int M t) { s with heap := h', toks := tk }) : wpAny (model prog w) A (call (.builtin "min") [.ref l]) Q E s := by
 obtain ⟨ys, e⟩ := hi.allInts.items
 have en : ns = ys.toList.map (·.1) := by rw [<- hi.numsOf, <- nums_intItems, <- e]
 have zy : 0 < ys.size := by
  have q : 0 < ns.length := List.length_pos_iff.mpr hz
  rwa [en, List.length_map, Array.length_toList] at q
 rw [e] at hl
 refine q6D hh hl zy λ v h1 tk q k => ?_
 obtain ⟨t, ev⟩ := intItems_at q
 subst ev
 obtain ⟨g1, g2⟩ := argBest_lt (numAt ys) (ys.size - 1)
 refine h h1 _ t tk k ?_ λ a ha => ?_
 ·rw [en, numAt_eq]
  exact z3G (by rw [List.length_map, Array.length_toList]; omega)
 ·rw [en] at ha
  obtain ⟨j, hj, ej⟩ := mem_getD ha
  subst ej
  rw [List.length_map, Array.length_toList] at hj
  rw [<- numAt_eq]
  exact g2 j (by omega)
end
section
variable {X : Cx}
theorem q9B (hc : X.calm = true) : q1o X (.builtin "min") (λ xs H Q => ∃ (a : Addr) (ns : List Int), xs = [.ref a] /\ SqT X.K H a (ns.map V.int) /\ ns ≠ [] /\ ∀ M, M ∈ ns -> (∀ x ∈ ns, M <= x) -> Q (.int M) H) := by
 intro pins s σ H xs us Q I r h
 obtain ⟨a, ns, rfl, hq, hz, q⟩ := h
 obtain ⟨u, rfl, r1⟩ := q3S r
 cases r1
 obtain ⟨its, rv, pl, _⟩ := I.tuple hq
 exact minT (I.ok.hd hc) pl (q9R rv) hz λ h' M t tk k m1 m2 => ⟨.int M, H, I.kept k, ⟨t, rfl⟩, q M m1 m2⟩
noncomputable def PrsV (K : PySem.W.Frag) (H : Hp) : List V -> List (Int × Int) -> Prop
 | [], [] => True
 | v :: vs, p :: ps => (∃ a, v = .ref a /\ SqT K H a [.int p.1, .int p.2]) /\ PrsV K H vs ps
 | _, _ => False
theorem PrsV.at {pins : List (Addr × Obj)} {σ : St} {H : Hp} {s : Shared} (I : Inv X pins σ H s) : ∀ {vs : List V} {ps : List (Int × Int)} {its : List Value}, PrsV X.K H vs ps -> Vals vs its -> q2C s.heap its ps
 | [], [], its, _, r => by cases r; exact trivial
 | _ :: _, p :: ps, its, x, r => by
  obtain ⟨⟨a, rfl, h1⟩, h2⟩ := x
  cases its with
  | nil => cases r
  | cons u us =>
   cases r
   rename_i r1 r2
   cases r1
   obtain ⟨its2, rv, ⟨o, e1, e2, n, e3⟩, _⟩ := I.tuple h1
   obtain ⟨u1, u2, rfl, ⟨t, rfl⟩, ⟨t', rfl⟩⟩ := q7d rv
   exact ⟨⟨a, o, n, t, t', rfl, e1, e2, e3⟩, h2.at I r2⟩
 | [], _ :: _, _, x, _ => x.elim
 | _ :: _, [], _, x, _ => x.elim
theorem q8K : q1o X (.builtin "sorted") (λ xs H Q => ∃ (a : Addr) (vs : List V) (ps : List (Int × Int)), xs = [.ref a] /\ SqL X.K H a vs /\ PrsV X.K H vs ps /\ q1E ps = true /\ ps.length < 64 /\ ∀ q, H q = none -> Q (.ref q) (upd H q (.lst vs))) := by
 intro pins s σ H xs us Q I r h
 obtain ⟨a, vs, ps, rfl, hq, hp, hr, hz, q⟩ := h
 obtain ⟨u, rfl, r1⟩ := q3S r
 cases r1
 obtain ⟨its, rv, pl, zl⟩ := I.list hq
 refine q5X pl.isList (hp.at I rv) hr hz λ h' p' e k hp' he => ?_
 have ok : q1v X.prog X.w (upd H p' (.lst vs)) h' p' (.lst vs) := ⟨zl, its, e, rv, he⟩
 exact ⟨.ref p', _, I.laid (t' := s.toks) k hp' ok, rfl, q p' (I.hok.fresh hp')⟩
end
end L2
end
section
namespace L2
open PySem
structure Sg where
 N : List Str
 sc : List (Str × NameKind)
 fn : List Str
 bl : List Str
 cl : List Str
 top : Bool
 lp : Bool
noncomputable def q9y : List Str := ["ValueError"]
noncomputable def q0S : Expr -> Option Str | .Name x _ => some x | _ => none
noncomputable def q2T : Expr -> Option Const | .Constant c _ _ => some c | _ => none
noncomputable def z3j : Expr -> Option (Expr × Operator × Expr) | .BinOp a o b _ => some (a, o, b) | _ => none
noncomputable def asUn : Expr -> Option (UnaryOp × Expr) | .UnaryOp o a _ => some (o, a) | _ => none
noncomputable def z2L : Expr -> Option (Expr × List CmpOp × List Expr) | .Compare a o b _ => some (a, o, b) | _ => none
noncomputable def q8j : Expr -> Option (BoolOp × List Expr) | .BoolOp o es _ => some (o, es) | _ => none
noncomputable def asIf : Expr -> Option (Expr × Expr × Expr) | .IfExp c a b _ => some (c, a, b) | _ => none
noncomputable def z0o : Expr -> Option (List Expr) | .List es _ => some es | _ => none
noncomputable def q3U : Expr -> Option (List Expr) | .Tuple es _ _ => some es | _ => none
noncomputable def q7j : Expr -> Option (Expr × Expr) | .Subscript a b _ => some (a, b) | _ => none
noncomputable def q4D : Expr -> Option (Option Expr × Option Expr × Option Expr) | .Slice a b c _ => some (a, b, c) | _ => none
noncomputable def q2u : Expr -> Option (Expr × List Expr × List Keyword × Pos) | .Call f as ks p => some (f, as, ks, p) | _ => none
noncomputable def q6b : Expr -> Option (Expr × Str × Pos) | .Attribute a n p => some (a, n, p) | _ => none
noncomputable def q9U : Expr -> Option (Expr × List Comprehension × Scope) | .ListComp e gs sc _ => some (e, gs, sc) | _ => none
noncomputable def q0y : Expr -> Bool | .Starred _ _ => true | _ => false
noncomputable def q5A : Expr -> Bool | .Slice _ _ _ _ => true | _ => false
noncomputable def q3V : Expr -> Bool | .Set _ _ _ => true | _ => false
noncomputable def q6J : Expr -> Bool | .ListComp _ _ _ _ => true | .SetComp _ _ _ _ => true | .DictComp _ _ _ _ _ => true | _ => false
theorem q0t {e : Expr} {x : Str} (h : q0S e = some x) : ∃ p, e = .Name x p := by
 cases e <;> simp [q0S] at h; subst h; exact ⟨_, rfl⟩
theorem q4W {e : Expr} {x : Const} (h : q2T e = some x) : ∃ k p, e = .Constant x k p := by
 cases e <;> simp [q2T] at h; subst h; exact ⟨_, _, rfl⟩
theorem q7Z {e a b : Expr} {o : Operator} (h : z3j e = some (a, o, b)) : ∃ p, e = .BinOp a o b p := by
 cases e <;> simp [z3j] at h; obtain ⟨rfl, rfl, rfl⟩ := h; exact ⟨_, rfl⟩
theorem q9V {e a : Expr} {o : UnaryOp} (h : asUn e = some (o, a)) : ∃ p, e = .UnaryOp o a p := by
 cases e <;> simp [asUn] at h; obtain ⟨rfl, rfl⟩ := h; exact ⟨_, rfl⟩
theorem q7A {e a : Expr} {os : List CmpOp} {bs : List Expr} (h : z2L e = some (a, os, bs)) : ∃ p, e = .Compare a os bs p := by
 cases e <;> simp [z2L] at h; obtain ⟨rfl, rfl, rfl⟩ := h; exact ⟨_, rfl⟩
theorem q3o {e : Expr} {o : BoolOp} {es : List Expr} (h : q8j e = some (o, es)) : ∃ p, e = .BoolOp o es p := by
 cases e <;> simp [q8j] at h; obtain ⟨rfl, rfl⟩ := h; exact ⟨_, rfl⟩
theorem q9n {e c a b : Expr} (h : asIf e = some (c, a, b)) : ∃ p, e = .IfExp c a b p := by
 cases e <;> simp [asIf] at h; obtain ⟨rfl, rfl, rfl⟩ := h; exact ⟨_, rfl⟩
theorem q6z {e : Expr} {es : List Expr} (h : z0o e = some es) : ∃ p, e = .List es p := by
 cases e <;> simp [z0o] at h; subst h; exact ⟨_, rfl⟩
theorem q4i {e : Expr} {es : List Expr} (h : q3U e = some es) : ∃ k p, e = .Tuple es k p := by
 cases e <;> simp [q3U] at h; subst h; exact ⟨_, _, rfl⟩
theorem q1z {e a b : Expr} (h : q7j e = some (a, b)) : ∃ p, e = .Subscript a b p := by
 cases e <;> simp [q7j] at h; obtain ⟨rfl, rfl⟩ := h; exact ⟨_, rfl⟩
theorem q3G {e : Expr} {a b c : Option Expr} (h : q4D e = some (a, b, c)) : ∃ p, e = .Slice a b c p := by
 cases e <;> simp [q4D] at h; obtain ⟨rfl, rfl, rfl⟩ := h; exact ⟨_, rfl⟩
theorem q0F {e f : Expr} {as : List Expr} {ks : List Keyword} {p : Pos} (h : q2u e = some (f, as, ks, p)) : e = .Call f as ks p := by
 cases e <;> simp [q2u] at h; obtain ⟨rfl, rfl, rfl, rfl⟩ := h; rfl
theorem q4l {e a : Expr} {n : Str} {p : Pos} (h : q6b e = some (a, n, p)) : e = .Attribute a n p := by
 cases e <;> simp [q6b] at h; obtain ⟨rfl, rfl, rfl⟩ := h; rfl
theorem z0F {e x : Expr} {gs : List Comprehension} {sc : Scope} (h : q9U e = some (x, gs, sc)) : ∃ p, e = .ListComp x gs sc p := by
 cases e <;> simp [q9U] at h; obtain ⟨rfl, rfl, rfl⟩ := h; exact ⟨_, rfl⟩
noncomputable def visB (sg : Sg) (x : Str) : Bool := sg.sc.lookup x == some .local || sg.sc.lookup x == some .cell || sg.sc.lookup x == some .free
noncomputable def gloB (sg : Sg) (x : Str) : Bool := sg.sc.lookup x == some .globalImplicit
noncomputable def locB (sg : Sg) (x : Str) : Bool := sg.sc.lookup x == some .local || sg.sc.lookup x == some .cell
noncomputable def q8G (sg : Sg) (i : Nat) (x : Str) : Bool := sg.N[i]? == some x && visB sg x && x != "__debug__" && x != "__classdict__"
noncomputable def bltB (sg : Sg) (x : Str) (f : Expr) : Bool := q0S f == some x && gloB sg x && sg.bl.contains x
noncomputable def z5y : Bi -> Str
 | .len => "len" | .min => "min" | .max => "max" | .sorted => "sorted" | .sset => "sorted" | .int => "int" | .list => "list" | .tuple => "tuple"
structure CParts where
 elt : Expr
 tg : Expr
 it : Expr
 ifs : List Expr
 sc : Scope
noncomputable def q4P (e : Expr) : Option CParts := match q9U e with
 | some (elt, [⟨tg, it, ifs, a⟩], sc) => if a = 0 then some ⟨elt, tg, it, ifs, sc⟩ else none
 | _ => none
theorem q4n {e : Expr} {c : CParts} (h : q4P e = some c) : ∃ p, e = .ListComp c.elt [⟨c.tg, c.it, c.ifs, 0⟩] c.sc p := by
 unfold q4P at h
 split at h
 ·rename_i elt tg it ifs a sc q
  split at h
  ·rename_i ha
   cases h
   subst ha
   exact z0F q
  ·cases h
 ·cases h
noncomputable def q1y (sg : Sg) (tn : List Str) (fr : List (Option Nat)) : List Str := tn ++ (fr.drop tn.length).map λ o => match o with | some i => sg.N.getD i "" | none => ""
noncomputable def q9M : Tg -> Expr -> Option (List Str)
 | .one _, e => (q0S e).map λ x => [x]
 | .many is, e => match q3U e with
  | some es => if es.length = is.length then es.mapM q0S else none
  | none => none
noncomputable def tgOk (sg : Sg) : Tg -> Expr -> Bool
 | .one i, e => match q0S e with
  | some x => sg.N[i]? == some x && locB sg x
  | none => false
 | .many is, e => match q3U e with
  | some es => es.length == is.length && 2 <= es.length && (is.zip es).all λ p => match q0S p.2 with
   | some x => sg.N[p.1]? == some x && locB sg x
   | none => false
  | none => false
noncomputable def q4S : List Str -> Bool
 | [] => true
 | x :: r => !r.contains x && q4S r
noncomputable def q2V : Tg -> List Nat
 | .one i => [i]
 | .many is => is
noncomputable def q2X (sg : Sg) (N' : List Str) (fr : List (Option Nat)) (sc : Scope) (tg : Tg) : Bool := (q2V tg).all (λ i => fr[i]? == some none) &&
 sc.kind == .function && q4S N' && q4S (sc.names.map (·.1)) && fr.length == N'.length &&
 (fr.zip N').all (λ p => match p.1 with | some i => sg.N[i]? == some p.2 && sc.names.contains (p.2, .free) | none => true) &&
 sc.names.all λ y => if y.2 == .free then sg.sc.lookup y.1 == some .cell || sg.sc.lookup y.1 == some .free else true
noncomputable def q9W : ME -> Bool
 | .comp _ _ _ _ => true
 | .compi _ _ _ _ _ => true
 | _ => false
noncomputable def isZp : ME -> Bool
 | _ => false
mutual
noncomputable def corE (sg : Sg) (w : Bool) : ME -> Expr -> Bool
 | .var i, e => match q0S e with | some x => q8G sg i x | none => false
 | .int i, e => q2T e == some (.int i)
 | .bl i, e => q2T e == some (.bool i)
 | .str x, e => q2T e == some (.str x) && decide (x.length <= 1000)
 | .non, e => q2T e == some .none
 | .glb x, e => q0S e == some x && gloB sg x && x != "__debug__"
 | .bin op a b, e => match z3j e with | some (ea, o, eb) => o == op && corE sg false a ea && corE sg false b eb | none => false
 | .not a, e => match asUn e with | some (o, ea) => o == .Not && corE sg false a ea | none => false
 | .cmp op a b, e => match z2L e with | some (ea, [o], [eb]) => o == op && corE sg false a ea && corE sg false b eb && !q3V eb | _ => false
 | .and ms, e => match q8j e with | some (o, es) => o == .And && q0W sg ms es | none => false
 | .or ms, e => match q8j e with | some (o, es) => o == .Or && q0W sg ms es | none => false
 | .ite c a b, e => match asIf e with | some (ec, ea, eb) => corE sg false c ec && corE sg false a ea && corE sg false b eb | none => false
 | .lst ms, e => match z0o e with | some es => q0W sg ms es | none => false
 | .tup ms, e => match q3U e with | some es => q0W sg ms es | none => false
 | .ix a b, e => match q7j e with | some (ea, eb) => corE sg false a ea && corE sg false b eb && !q5A eb | none => false
 | .sl a lo hi, e => match q7j e with
  | some (ea, es) => (match q4D es with | some (some el, some eh, none) => corE sg false a ea && corE sg false lo el && corE sg false hi eh | _ => false)
  | none => false
 | .slf a lo, e => match q7j e with
  | some (ea, es) => (match q4D es with | some (some el, none, none) => corE sg false a ea && corE sg false lo el | _ => false)
  | none => false
 | .slt a hi, e => match q7j e with
  | some (ea, es) => (match q4D es with | some (none, some eh, none) => corE sg false a ea && corE sg false hi eh | _ => false)
  | none => false
 | .call f ms, e => match q2u e with
  | some (ef, es, [], _) => (match q0S ef with | some x => sg.fn[f]? == some x && gloB sg x && x != "__debug__" | none => false) && !es.isEmpty && q0W sg ms es
  | _ => false
 | .bi f ms, e => match q2u e with
  | some (ef, es, [], _) => bltB sg (z5y f) ef && !es.isEmpty && (match f with
   | .sset => (match es with
    | [e1] => (match q2u e1 with
     | some (ef', es', [], _) => bltB sg "set" ef' && es'.length == 1 && q0W sg ms es'
     | _ => false)
    | _ => false)
   | _ => q0W sg ms es)
  | _ => false
 | .isi a ts, e => match q2u e with
  | some (ef, [ea, et], [], _) => bltB sg "isinstance" ef && corE sg false a ea && !q0y ea && !q0y et && (match ts with
   | [t] => q0S et == some t && gloB sg t && sg.bl.contains t && q1g.contains t
   | [t, u] => (match q3U et with
    | some [e1, e2] => (q0S e1 == some t && gloB sg t && sg.bl.contains t && q1g.contains t) && (q0S e2 == some u && gloB sg u && sg.bl.contains u && q1g.contains u)
    | _ => false)
   | _ => false)
  | _ => false
 | .isx a t, e => match q2u e with
  | some (ef, [ea, et], [], _) => bltB sg "isinstance" ef && corE sg false a ea && !q0y ea && !q0y et && q0S et == some t && gloB sg t && ((sg.cl.contains t && t != "__debug__") || (sg.bl.contains t && q9y.contains t))
  | _ => false
 | .comp elt tg it fr, e => match q4P e with
  | some c => c.ifs.isEmpty && (corE sg true it c.it && (!isZp it || (q3U c.tg).isSome)) && !q3V c.it && (match q9M tg c.tg with
   | some tn => q2X sg (q1y sg tn fr) fr c.sc tg && tgOk ⟨q1y sg tn fr, c.sc.names, sg.fn, sg.bl, sg.cl, false, true⟩ tg c.tg && corE ⟨q1y sg tn fr, c.sc.names, sg.fn, sg.bl, sg.cl, false, true⟩ false elt c.elt
   | none => false)
  | none => false
 | .compi elt tg it cd fr, e => match q4P e with
  | some c => (corE sg true it c.it && (!isZp it || (q3U c.tg).isSome)) && !q3V c.it && (match q9M tg c.tg, c.ifs with
   | some tn, [ec] => q2X sg (q1y sg tn fr) fr c.sc tg && tgOk ⟨q1y sg tn fr, c.sc.names, sg.fn, sg.bl, sg.cl, false, true⟩ tg c.tg && corE ⟨q1y sg tn fr, c.sc.names, sg.fn, sg.bl, sg.cl, false, true⟩ false elt c.elt && corE ⟨q1y sg tn fr, c.sc.names, sg.fn, sg.bl, sg.cl, false, true⟩ false cd ec
   | _, _ => false)
  | none => false
 | .idx a b, e => match q2u e with
  | some (ef, [eb], [], pos) => (match q6b ef with
   | some (ea, n, apos) => n == "index" && corE sg false a ea && (q0S ea).isSome && apos.endLine == pos.line && corE sg false b eb && !q0y eb
   | none => false)
  | _ => false
 | .rng ms, e => w && (match q2u e with
  | some (ef, es, [], _) => bltB sg "range" ef && q0W sg ms es && decide (es.length <= 3)
  | _ => false)
noncomputable def q0W (sg : Sg) : List ME -> List Expr -> Bool
 | [], [] => true
 | m :: ms, e :: es => corE sg false m e && !q0y e && q0W sg ms es
 | _, _ => false
end
noncomputable def q6s : ExceptHandler -> Option (Option Expr × Option Str × List Stmt) | .ExceptHandler t n b _ => some (t, n, b)
mutual
noncomputable def corS (sg : Sg) : MS -> Stmt -> Bool
 | .set i _ e, s => match s with
  | .Assign [t] v pos => (match t with
   | .Name x pt => sg.N[i]? == some x && locB sg x && corE sg false e v && (!q6J v || q9W e)
   | _ => false)
  | _ => false
 | .app i e, s => match s with
  | .Expr v _ => (match q2u v with
   | some (ef, [ea], [], pos) => (match q6b ef with
    | some (o, n, apos) => n == "append" && (match q0S o with | some x => q8G sg i x | none => false) && corE sg false e ea && !q0y ea && apos.endLine == pos.line
    | none => false)
   | _ => false)
  | _ => false
 | .ext i e, s => match s with
  | .Expr v _ => (match q2u v with
   | some (ef, [ea], [], pos) => (match q6b ef with
    | some (o, n, apos) => n == "extend" && (match q0S o with | some x => q8G sg i x | none => false) && corE sg false e ea && !q0y ea && apos.endLine == pos.line
    | none => false)
   | _ => false)
  | _ => false
 | .seti i k e, s => match s with
  | .Assign [t] v _ => (match q7j t with
   | some (o, ek) => (match q0S o with | some x => q8G sg i x | none => false) && corE sg false k ek && !q5A ek && corE sg false e v
   | none => false)
  | _ => false
 | .exp e, s => match s with
  | .Expr v _ => corE sg false e v && !q6J v
  | _ => false
 | .ret e, s => match s with
  | .Return (some v) _ => corE sg false e v
  | _ => false
 | .iff c a b, s => match s with
  | .If ec ea eb _ => corE sg false c ec && q2W sg a ea && q2W sg b eb
  | _ => false
 | .fo tg it body, s => match s with
  | .For t i b [] _ => sg.lp && tgOk sg tg t && (corE sg true it i && (!isZp it || (q3U t).isSome)) && !q3V i && q2W sg body b
  | _ => false
 | .rse c e, s => match s with
  | .Raise (some v) none _ => (match q2u v with
   | some (ef, [ea], [], _) => sg.top && q0S ef == some c && gloB sg c && c != "__debug__" && corE sg false e ea && !q0y ea
   | _ => false)
  | _ => false
 | .tryc body c ie ic, s => match s with
  | .Try b [h] [] [] _ => sg.top && q2W ⟨sg.N, sg.sc, sg.fn, sg.bl, sg.cl, false, false⟩ body b && (match q6s h with
   | some (some t, some n, [.Assign [t2] v2 _]) => q0S t == some c && gloB sg c && c != "__debug__" && sg.cl.contains c && sg.N[ie]? == some n && sg.sc.lookup n == some .local && n != "__debug__" && n != "__classdict__" &&
     q0S v2 == some n && (match q0S t2 with | some x => sg.N[ic]? == some x && locB sg x | none => false) && ie != ic
   | _ => false)
  | _ => false
 | .frz _, _ => false
noncomputable def q2W (sg : Sg) : List MS -> List Stmt -> Bool
 | [], [] => true
 | .frz _ :: ms, ss => q2W sg ms ss
 | m :: ms, s :: ss => corS sg m s && q2W sg ms ss
 | _, _ => false
end
end L2
end
section
namespace L2
open PySem PySem.Spec PyProof.Rows
structure Dm where
 K : PySem.W.Frag
 mg : Str -> Option Value
noncomputable abbrev Cx.D (X : Cx) : Dm := ⟨X.K, X.mg⟩
noncomputable def SqS (K : PySem.W.Frag) (H : Hp) (a : Addr) (xs : List V) : Prop := (∃ o, H a = some (.frz o (.lst xs))) \/
 ∃ (o : Obj) (its : Array Value) (n : Nat), K.lookup a = some o /\ o.cls = .type "list" /\ o.dict = none /\ o.data = .seq its n /\ its.size <= sizeLine /\ Vals xs its.toList
theorem SqS.sq {K : PySem.W.Frag} {H : Hp} {a : Addr} {xs : List V} (h : SqS K H a xs) : SqL K H a xs := by
 rcases h with h | h
 ·exact .inl (.inr h)
 ·exact .inr h
theorem SqS.of {K : PySem.W.Frag} {H : Hp} {a : Addr} {xs : List V} (hO : Only H) (h : SqL K H a xs) : SqS K H a xs := by
 rcases h with (h | h) | h
 ·rcases hO a with z | ⟨o, ys, z⟩
  ·rw [h] at z; cases z
  ·rw [h] at z; cases z
 ·exact .inl h
 ·exact .inr h
theorem Same.sqs {K : PySem.W.Frag} {H H' : Hp} {a : Addr} {xs : List V} (e : Same H H') (h : SqS K H a xs) : SqS K H' a xs := by
 rcases h with ⟨o, h⟩ | h
 ·exact .inl ⟨o, e _ _ h⟩
 ·exact .inr h
mutual
noncomputable def Rep (D : Dm) (H : Hp) : DV -> V -> Prop
 | .non, v => v = .non
 | .bl b, v => v = .bl b
 | .int i, v => v = .int i
 | .str x, v => v = .str x /\ x.length <= sizeLine
 | .tup ds, v => ∃ a xs, v = .ref a /\ SqT D.K H a xs /\ RepL D H ds xs
 | .lst ds, v => ∃ a xs, v = .ref a /\ H a = some (.lst xs) /\ RepL D H ds xs
 | .dct _ _, v => ∃ a kvs, v = .ref a /\ H a = some (.dK kvs)
 | .exc c, v => ∃ a C, v = .ref a /\ D.mg c = some C /\ H a = some (excO a C)
 | .fn x, v => ∃ f, v = .ref f /\ D.mg x = some (.ref f)
 | .scr ns, v => ∃ a, v = .ref a /\ SqS D.K H a (ns.map V.int)
noncomputable def RepL (D : Dm) (H : Hp) : List DV -> List V -> Prop
 | [], xs => xs = []
 | d :: ds, xs => ∃ v vs, xs = v :: vs /\ Rep D H d v /\ RepL D H ds vs
end
theorem Same.tseq {K : PySem.W.Frag} {H H' : Hp} {a : Addr} {xs : List V} (e : Same H H') (h : SqT K H a xs) : SqT K H' a xs := by
 rcases h with (h | ⟨o, h⟩) | h
 ·exact .inl (.inl (e _ _ h))
 ·exact .inl (.inr ⟨o, e _ _ h⟩)
 ·exact .inr h
mutual
theorem Rep.mono {D : Dm} {H H' : Hp} (e : Same H H') : ∀ {d : DV} {v : V}, Rep D H d v -> Rep D H' d v
 | .non, _, h => by unfold Rep at h ⊢; exact h
 | .bl _, _, h => by unfold Rep at h ⊢; exact h
 | .int _, _, h => by unfold Rep at h ⊢; exact h
 | .str _, _, h => by unfold Rep at h ⊢; exact h
 | .tup ds, _, h => by
  unfold Rep at h ⊢
  obtain ⟨a, xs, e1, e2, e3⟩ := h
  exact ⟨a, xs, e1, e.tseq e2, RepL.mono e e3⟩
 | .lst ds, _, h => by
  unfold Rep at h ⊢
  obtain ⟨a, xs, e1, e2, e3⟩ := h
  exact ⟨a, xs, e1, e _ _ e2, RepL.mono e e3⟩
 | .dct _ _, _, h => by
  unfold Rep at h ⊢
  obtain ⟨a, kvs, e1, e2⟩ := h
  exact ⟨a, kvs, e1, e _ _ e2⟩
 | .exc C, _, h => by
  unfold Rep at h ⊢
  obtain ⟨a, C, e1, e2, e3⟩ := h
  exact ⟨a, C, e1, e2, e _ _ e3⟩
 | .fn _, _, h => by unfold Rep at h ⊢; exact h
 | .scr _, _, h => by
  unfold Rep at h ⊢
  obtain ⟨a, e1, e2⟩ := h
  exact ⟨a, e1, e.sqs e2⟩
theorem RepL.mono {D : Dm} {H H' : Hp} (e : Same H H') : ∀ {ds : List DV} {xs : List V}, RepL D H ds xs -> RepL D H' ds xs
 | [], _, h => by unfold RepL at h ⊢; exact h
 | d :: ds, _, h => by
  unfold RepL at h ⊢
  obtain ⟨v, vs, e1, e2, e3⟩ := h
  exact ⟨v, vs, e1, Rep.mono e e2, RepL.mono e e3⟩
end
section
variable {D : Dm} {H H' : Hp} {v : V} {xs ys : List V} {ds es : List DV} {d : DV}
theorem q0O {i : Int} : Rep D H (.int i) v ↔ v = .int i := by unfold Rep; exact Iff.rfl
theorem q3M {i : Bool} : Rep D H (.bl i) v ↔ v = .bl i := by unfold Rep; exact Iff.rfl
theorem q2e {i : Str} : Rep D H (.str i) v ↔ (v = .str i /\ i.length <= sizeLine) := by unfold Rep; exact Iff.rfl
theorem q2R : Rep D H .non v ↔ v = .non := by unfold Rep; exact Iff.rfl
theorem q0J : Rep D H (.tup ds) v ↔ ∃ a xs, v = .ref a /\ SqT D.K H a xs /\ RepL D H ds xs := by unfold Rep; exact Iff.rfl
theorem q0B : Rep D H (.lst ds) v ↔ ∃ a xs, v = .ref a /\ H a = some (.lst xs) /\ RepL D H ds xs := by unfold Rep; exact Iff.rfl
theorem q7f {c : Str} : Rep D H (.exc c) v ↔ ∃ a C, v = .ref a /\ D.mg c = some C /\ H a = some (excO a C) := by unfold Rep; exact Iff.rfl
theorem z4Y {x : Str} : Rep D H (.fn x) v ↔ ∃ f, v = .ref f /\ D.mg x = some (.ref f) := by unfold Rep; exact Iff.rfl
theorem q1V {ns : List Int} : Rep D H (.scr ns) v ↔ ∃ a, v = .ref a /\ SqS D.K H a (ns.map V.int) := by unfold Rep; exact Iff.rfl
theorem q6L {ks : List DKey} {vs : List DV} : Rep D H (.dct ks vs) v ↔ ∃ a kvs, v = .ref a /\ H a = some (.dK kvs) := by unfold Rep; exact Iff.rfl
theorem q0z : RepL D H [] xs ↔ xs = [] := by unfold RepL; exact Iff.rfl
theorem q0k : RepL D H (d :: ds) xs ↔ ∃ v vs, xs = v :: vs /\ Rep D H d v /\ RepL D H ds vs := by
 constructor
 ·intro h; unfold RepL at h; exact h
 ·intro h; unfold RepL; exact h
end
theorem RepL.length {D : Dm} {H : Hp} : ∀ {ds : List DV} {xs : List V}, RepL D H ds xs -> xs.length = ds.length
 | [], _, h => by rw [q0z.mp h]; rfl
 | d :: ds, _, h => by
  obtain ⟨v, vs, e1, _, e3⟩ := q0k.mp h
  rw [e1, List.length_cons, List.length_cons, RepL.length e3]
theorem RepL.get {D : Dm} {H : Hp} : ∀ {ds : List DV} {xs : List V} {i : Nat} {d : DV}, RepL D H ds xs -> ds[i]? = some d -> ∃ v, xs[i]? = some v /\ Rep D H d v
 | [], _, _, _, _, e => by simp at e
 | d :: ds, _, i, d', h, e => by
  obtain ⟨v, vs, e1, e2, e3⟩ := q0k.mp h
  subst e1
  cases i with
  | zero => simp at e; subst e; exact ⟨v, rfl, e2⟩
  | succ i => simpa using RepL.get (i := i) e3 (by simpa using e)
theorem RepL.append {D : Dm} {H : Hp} : ∀ {ds es : List DV} {xs ys : List V}, RepL D H ds xs -> RepL D H es ys -> RepL D H (ds ++ es) (xs ++ ys)
 | [], _, _, _, h, h' => by rw [q0z.mp h]; exact h'
 | d :: ds, _, _, _, h, h' => by
  obtain ⟨v, vs, e1, e2, e3⟩ := q0k.mp h
  subst e1
  exact q0k.mpr ⟨v, _, rfl, e2, RepL.append e3 h'⟩
theorem RepL.one {D : Dm} {H : Hp} {d : DV} {v : V} (h : Rep D H d v) : RepL D H [d] [v] := q0k.mpr ⟨v, [], rfl, h, q0z.mpr rfl⟩
theorem RepL.take {D : Dm} {H : Hp} : ∀ {ds : List DV} {xs : List V} (n : Nat), RepL D H ds xs -> RepL D H (ds.take n) (xs.take n)
 | _, _, 0, _ => q0z.mpr rfl
 | [], _, n + 1, h => by rw [q0z.mp h]; exact q0z.mpr rfl
 | d :: ds, _, n + 1, h => by
  obtain ⟨v, vs, e1, e2, e3⟩ := q0k.mp h
  subst e1
  exact q0k.mpr ⟨v, _, rfl, e2, RepL.take n e3⟩
theorem RepL.drop {D : Dm} {H : Hp} : ∀ {ds : List DV} {xs : List V} (n : Nat), RepL D H ds xs -> RepL D H (ds.drop n) (xs.drop n)
 | _, _, 0, h => h
 | [], _, n + 1, h => by rw [q0z.mp h]; exact q0z.mpr rfl
 | d :: ds, _, n + 1, h => by
  obtain ⟨v, vs, e1, e2, e3⟩ := q0k.mp h
  subst e1
  exact RepL.drop n e3
theorem RepL.set {D : Dm} {H : Hp} {d : DV} {v : V} (q : Rep D H d v) : ∀ {ds : List DV} {xs : List V} (n : Nat), RepL D H ds xs -> RepL D H (ds.set n d) (xs.set n v)
 | [], _, n, h => by rw [q0z.mp h]; exact q0z.mpr rfl
 | _ :: ds, _, 0, h => by
  obtain ⟨v, vs, e1, e2, e3⟩ := q0k.mp h
  subst e1
  exact q0k.mpr ⟨_, _, rfl, q, e3⟩
 | _ :: ds, _, n + 1, h => by
  obtain ⟨v, vs, e1, e2, e3⟩ := q0k.mp h
  subst e1
  exact q0k.mpr ⟨_, _, rfl, e2, RepL.set q n e3⟩
theorem q2b {D : Dm} {H : Hp} : ∀ (ns : List Int), RepL D H (ns.map DV.int) (ns.map V.int)
 | [] => q0z.mpr rfl
 | n :: ns => q0k.mpr ⟨_, _, rfl, q0O.mpr rfl, q2b ns⟩
noncomputable def wo (O : List Addr) (H : Hp) : Hp := λ b => if b ∈ O then none else H b
theorem z5r {O : List Addr} {H : Hp} {b : Addr} (h : b ∈ O) : wo O H b = none := if_pos h
theorem q0A {O : List Addr} {H : Hp} {b : Addr} (h : b ∉ O) : wo O H b = H b := if_neg h
theorem q1a {O : List Addr} {H : Hp} {b : Addr} {o : HO} (h : wo O H b = some o) : b ∉ O /\ H b = some o := by
 by_cases hb : b ∈ O
 ·rw [z5r hb] at h; cases h
 ·rw [q0A hb] at h; exact ⟨hb, h⟩
theorem Same.wo {O : List Addr} {H H' : Hp} (e : Same H H') : Same (wo O H) (wo O H') := λ b o h => by
 obtain ⟨hb, h⟩ := q1a h
 rw [q0A hb]; exact e b o h
theorem q1G {O : List Addr} {H : Hp} : Same (L2.wo O H) H := λ b o h => (q1a h).2
theorem q0R {O O' : List Addr} {H : Hp} (h : ∀ b ∈ O', b ∈ O) : Same (L2.wo O H) (L2.wo O' H) := λ b o e => by
 obtain ⟨hb, e⟩ := q1a e
 rw [q0A λ z => hb (h b z)]; exact e
theorem q0u {H : Hp} {p : Addr} {o : HO} (h : H p = none) : Same H (upd H p o) := λ b u q => by rw [q0x (q0v q h)]; exact q
structure Hid (O W : List Addr) (H0 H : Hp) : Prop where
 ot : ∀ a ∈ O ++ W, H0 a ≠ none
 same : Same H0 H
 wl : ∀ a ∈ W, ∃ xs, H0 a = some (.lst xs)
 dj : ∀ a ∈ W, a ∉ O
theorem Hid.mono {O W : List Addr} {H0 H H' : Hp} (h : Hid O W H0 H) (e : Same H H') : Hid O W H0 H' := ⟨h.ot, h.same.trans e, h.wl, h.dj⟩
theorem Hid.newOut {O W : List Addr} {H0 H : Hp} (h : Hid O W H0 H) {p : Addr} (hp : H p = none) : p ∉ O ++ W := λ z => h.ot p z (h.same.free hp)
mutual
theorem Rep.immut {D : Dm} {O W : List Addr} {H : Hp} (hw : ∀ a ∈ W, ∃ xs, H a = some (.lst xs)) : ∀ {d : DV} {v : V}, d.immut = true -> Rep D (L2.wo O H) d v -> Rep D (L2.wo (O ++ W) H) d v
 | .non, _, _, h => by unfold Rep at h ⊢; exact h
 | .bl _, _, _, h => by unfold Rep at h ⊢; exact h
 | .int _, _, _, h => by unfold Rep at h ⊢; exact h
 | .str _, _, _, h => by unfold Rep at h ⊢; exact h
 | .tup ds, _, m, h => by
  unfold Rep at h ⊢
  obtain ⟨a, xs, e1, e2, e3⟩ := h
  have m' : DV.immuts ds = true := by unfold DV.immut at m; exact m
  refine ⟨a, xs, e1, ?_, RepL.immut hw m' e3⟩
  rcases e2 with (h | ⟨o, h⟩) | h
  ·obtain ⟨ha, h⟩ := q1a h
   refine .inl (.inl ?_)
   rw [q0A λ z => ?_]
   ·exact h
   ·rcases List.mem_append.mp z with z | z
    ·exact ha z
    ·obtain ⟨ys, q⟩ := hw a z; rw [h] at q; cases q
  ·obtain ⟨ha, h⟩ := q1a h
   refine .inl (.inr ⟨o, ?_⟩)
   rw [q0A λ z => ?_]
   ·exact h
   ·rcases List.mem_append.mp z with z | z
    ·exact ha z
    ·obtain ⟨ys, q⟩ := hw a z; rw [h] at q; cases q
  ·exact .inr h
 | .lst ds, _, m, _ => by unfold DV.immut at m; cases m
 | .dct _ _, _, m, _ => by unfold DV.immut at m; cases m
 | .exc C, _, _, h => by
  unfold Rep at h ⊢
  obtain ⟨a, C, e1, e2, e3⟩ := h
  obtain ⟨ha, h⟩ := q1a e3
  refine ⟨a, C, e1, e2, ?_⟩
  rw [q0A λ z => ?_]
  ·exact h
  ·rcases List.mem_append.mp z with z | z
   ·exact ha z
   ·obtain ⟨ys, q⟩ := hw a z; rw [h] at q; cases q
 | .fn _, _, _, h => by unfold Rep at h ⊢; exact h
 | .scr ns, _, _, h => by
  unfold Rep at h ⊢
  obtain ⟨a, e1, e2⟩ := h
  refine ⟨a, e1, ?_⟩
  rcases e2 with ⟨o, h⟩ | h
  ·obtain ⟨ha, h⟩ := q1a h
   refine .inl ⟨o, ?_⟩
   rw [q0A λ z => ?_]
   ·exact h
   ·rcases List.mem_append.mp z with z | z
    ·exact ha z
    ·obtain ⟨ys, q⟩ := hw a z; rw [h] at q; cases q
  ·exact .inr h
theorem RepL.immut {D : Dm} {O W : List Addr} {H : Hp} (hw : ∀ a ∈ W, ∃ xs, H a = some (.lst xs)) : ∀ {ds : List DV} {xs : List V}, DV.immuts ds = true -> RepL D (L2.wo O H) ds xs -> RepL D (L2.wo (O ++ W) H) ds xs
 | [], _, _, h => by unfold RepL at h ⊢; exact h
 | d :: ds, _, m, h => by
  unfold RepL at h ⊢
  obtain ⟨v, vs, e1, e2, e3⟩ := h
  unfold DV.immuts at m
  rw [Bool.and_eq_true] at m
  exact ⟨v, vs, e1, Rep.immut hw m.1 e2, RepL.immut hw m.2 e3⟩
end
noncomputable def RepT (D : Dm) (W : List Addr) (Ht H : Hp) (d : DV) (v : V) : Prop := match d with
 | .lst ds => ∃ a xs, v = .ref a /\ a ∈ W /\ Ht a = some (.lst xs) /\ RepL D H ds xs
 | d => Rep D H d v
theorem RepT.mono {D : Dm} {W : List Addr} {Ht Ht' H H' : Hp} {d : DV} {v : V} (et : Same Ht Ht') (e : Same H H') (h : RepT D W Ht H d v) : RepT D W Ht' H' d v := by
 cases d with
 | lst ds => obtain ⟨a, xs, e1, e0, e2, e3⟩ := h; exact ⟨a, xs, e1, e0, et _ _ e2, e3.mono e⟩
 | non => exact Rep.mono (D := D) (d := .non) (v := v) e h
 | bl b => exact Rep.mono (D := D) (d := .bl b) (v := v) e h
 | int b => exact Rep.mono (D := D) (d := .int b) (v := v) e h
 | str b => exact Rep.mono (D := D) (d := .str b) (v := v) e h
 | tup b => exact Rep.mono (D := D) (d := .tup b) (v := v) e h
 | dct b c => exact Rep.mono (D := D) (d := .dct b c) (v := v) e h
 | exc b => exact Rep.mono (D := D) (d := .exc b) (v := v) e h
 | fn b => exact Rep.mono (D := D) (d := .fn b) (v := v) e h
 | scr b => exact Rep.mono (D := D) (d := .scr b) (v := v) e h
theorem RepT.rep {D : Dm} {W : List Addr} {Ht H : Hp} {d : DV} {v : V} (e : Same H Ht) (h : RepT D W Ht H d v) : Rep D Ht d v := by
 cases d with
 | lst ds => obtain ⟨a, xs, e1, e0, e2, e3⟩ := h; exact q0B.mpr ⟨a, xs, e1, e2, e3.mono e⟩
 | non => exact Rep.mono (D := D) (d := .non) (v := v) e h
 | bl b => exact Rep.mono (D := D) (d := .bl b) (v := v) e h
 | int b => exact Rep.mono (D := D) (d := .int b) (v := v) e h
 | str b => exact Rep.mono (D := D) (d := .str b) (v := v) e h
 | tup b => exact Rep.mono (D := D) (d := .tup b) (v := v) e h
 | dct b c => exact Rep.mono (D := D) (d := .dct b c) (v := v) e h
 | exc b => exact Rep.mono (D := D) (d := .exc b) (v := v) e h
 | fn b => exact Rep.mono (D := D) (d := .fn b) (v := v) e h
 | scr b => exact Rep.mono (D := D) (d := .scr b) (v := v) e h
noncomputable def Got (D : Dm) (O W : List Addr) (H0 H : Hp) (d : DV) (c : Cl) (v : V) : Prop := match c with
 | .weak => Rep D (L2.wo O H) d v
 | .top => RepT D W (L2.wo O H) (L2.wo (O ++ W) H) d v
 | .strong => Rep D (L2.wo (O ++ W) H) d v
 | .fresh => ∃ p xs ds, v = .ref p /\ d = .lst ds /\ H0 p = none /\ H p = some (.lst xs) /\ RepL D (L2.wo (p :: (O ++ W)) H) ds xs
 | .ft => ∃ t ts p xs ds es, v = .ref t /\ d = .tup (.lst ds :: es) /\ SqT D.K (L2.wo (O ++ W) H) t (.ref p :: ts) /\ H0 p = none /\ H p = some (.lst xs) /\ RepL D (L2.wo (p :: (O ++ W)) H) ds xs /\ RepL D (L2.wo (p :: (O ++ W)) H) es ts
section
variable {D : Dm} {O W : List Addr} {H0 H H' : Hp} {d : DV} {ds : List DV} {c : Cl} {v : V}
theorem q5Y : ∀ b ∈ O, b ∈ O ++ W := λ _ h => List.mem_append_left _ h
theorem Got.mono (h : Got D O W H0 H d c v) (e : Same H H') : Got D O W H0 H' d c v := by
 cases c with
 | weak => exact Rep.mono e.wo h
 | top => exact RepT.mono e.wo e.wo h
 | strong => exact Rep.mono e.wo h
 | fresh =>
  obtain ⟨p, xs, ds, e1, e2, e3, e4, e5⟩ := h
  exact ⟨p, xs, ds, e1, e2, e3, e _ _ e4, e5.mono e.wo⟩
 | ft =>
  obtain ⟨t, ts, p, xs, ds, es, e1, e2, e0, e3, e4, e5, e6⟩ := h
  exact ⟨t, ts, p, xs, ds, es, e1, e2, e.wo.tseq e0, e3, e _ _ e4, e5.mono e.wo, e6.mono e.wo⟩
theorem Got.since {H1 : Hp} (h : Got D O W H1 H d c v) (e : Same H0 H1) : Got D O W H0 H d c v := by
 cases c with
 | weak => exact h
 | top => exact h
 | strong => exact h
 | fresh =>
  obtain ⟨p, xs, ds, e1, e2, e3, e4, e5⟩ := h
  exact ⟨p, xs, ds, e1, e2, e.free e3, e4, e5⟩
 | ft =>
  obtain ⟨t, ts, p, xs, ds, es, e1, e2, e0, e3, e4, e5, e6⟩ := h
  exact ⟨t, ts, p, xs, ds, es, e1, e2, e0, e.free e3, e4, e5, e6⟩
theorem Got.ft (h : Got D O W H0 H d .ft v) (hd : Hid O W H0 H) : Rep D (L2.wo (O ++ W) H) d v := by
 obtain ⟨t, ts, p, xs, ds, es, e1, e2, e0, e3, e4, e5, e6⟩ := h
 have hp : p ∉ O ++ W := λ z => hd.ot p z e3
 have up : Same (L2.wo (p :: (O ++ W)) H) (L2.wo (O ++ W) H) := q0R λ b hb => List.mem_cons_of_mem _ hb
 rw [e2]
 exact q0J.mpr ⟨t, _, e1, e0, q0k.mpr ⟨_, _, rfl, q0B.mpr ⟨p, xs, rfl, by rw [q0A hp]; exact e4, e5.mono up⟩, e6.mono up⟩⟩
theorem Got.strong (h : Got D O W H0 H d .fresh v) (hd : Hid O W H0 H) : Rep D (L2.wo (O ++ W) H) d v := by
 obtain ⟨p, xs, ds, e1, e2, e3, e4, e5⟩ := h
 have hp : p ∉ O ++ W := λ z => hd.ot p z e3
 rw [e2]
 exact q0B.mpr ⟨p, xs, e1, by rw [q0A hp]; exact e4, e5.mono (q0R λ b hb => List.mem_cons_of_mem _ hb)⟩
theorem Got.weak (h : Got D O W H0 H d c v) (hd : Hid O W H0 H) : Rep D (L2.wo O H) d v := by
 cases c with
 | weak => exact h
 | top => exact RepT.rep (q0R q5Y) h
 | strong => exact Rep.mono (q0R q5Y) h
 | fresh => exact Rep.mono (q0R q5Y) (h.strong hd)
 | ft => exact Rep.mono (q0R q5Y) (h.ft hd)
theorem Got.all (h : Got D O W H0 H d c v) (hd : Hid O W H0 H) : Rep D H d v := Rep.mono q1G (h.weak hd)
theorem Got.stro (h : Got D O W H0 H d c v) (hd : Hid O W H0 H) (hs : L2.stro d c = true) : Rep D (L2.wo (O ++ W) H) d v := by
 cases c with
 | strong => exact h
 | fresh => exact h.strong hd
 | ft => exact h.ft hd
 | weak => exact Rep.immut (λ a ha => by obtain ⟨xs, e⟩ := hd.wl a ha; exact ⟨xs, hd.same _ _ e⟩) hs (h.weak hd)
 | top => exact Rep.immut (λ a ha => by obtain ⟨xs, e⟩ := hd.wl a ha; exact ⟨xs, hd.same _ _ e⟩) hs (h.weak hd)
theorem Got.items (h : Got D O W H0 H (.lst ds) c v) (hd : Hid O W H0 H) (hc : c ≠ .weak) : ∃ a xs, v = .ref a /\ H a = some (.lst xs) /\ RepL D (L2.wo (O ++ W) H) ds xs := by
 cases c with
 | weak => exact absurd rfl hc
 | top =>
  obtain ⟨a, xs, e1, e0, e2, e3⟩ := h
  exact ⟨a, xs, e1, q1G _ _ e2, e3⟩
 | strong =>
  obtain ⟨a, xs, e1, e2, e3⟩ := q0B.mp h
  exact ⟨a, xs, e1, q1G _ _ e2, e3⟩
 | fresh =>
  obtain ⟨a, xs, e1, e2, e3⟩ := q0B.mp (h.strong hd)
  exact ⟨a, xs, e1, q1G _ _ e2, e3⟩
 | ft =>
  obtain ⟨a, xs, e1, e2, e3⟩ := q0B.mp (h.ft hd)
  exact ⟨a, xs, e1, q1G _ _ e2, e3⟩
theorem Got.itemsT (h : Got D O W H0 H (.tup ds) c v) (hd : Hid O W H0 H) (hc : c ≠ .weak) : ∃ a xs, v = .ref a /\ SqT D.K H a xs /\ RepL D (L2.wo (O ++ W) H) ds xs := by
 cases c with
 | weak => exact absurd rfl hc
 | top =>
  obtain ⟨a, xs, e1, e2, e3⟩ := q0J.mp (show Rep D (L2.wo (O ++ W) H) (.tup ds) v from h)
  exact ⟨a, xs, e1, q1G.tseq e2, e3⟩
 | strong =>
  obtain ⟨a, xs, e1, e2, e3⟩ := q0J.mp h
  exact ⟨a, xs, e1, q1G.tseq e2, e3⟩
 | fresh =>
  obtain ⟨p, xs, ds, e1, e2, e3, e4, e5⟩ := h
  cases e2
 | ft =>
  obtain ⟨a, xs, e1, e2, e3⟩ := q0J.mp (h.ft hd)
  exact ⟨a, xs, e1, q1G.tseq e2, e3⟩
theorem Got.lst (h : Got D O W H0 H (.lst ds) c v) (hd : Hid O W H0 H) : ∃ a xs, v = .ref a /\ H a = some (.lst xs) /\ RepL D (L2.wo O H) ds xs := by
 obtain ⟨a, xs, e1, e2, e3⟩ := q0B.mp (h.weak hd)
 exact ⟨a, xs, e1, q1G _ _ e2, e3⟩
theorem Got.tup (h : Got D O W H0 H (.tup ds) c v) (hd : Hid O W H0 H) : ∃ a xs, v = .ref a /\ SqT D.K H a xs /\ RepL D (L2.wo O H) ds xs := by
 obtain ⟨a, xs, e1, e2, e3⟩ := q0J.mp (h.weak hd)
 exact ⟨a, xs, e1, q1G.tseq e2, e3⟩
noncomputable def q1N (O W : List Addr) : Cl -> List Addr
 | .weak => O
 | _ => O ++ W
theorem Got.lstC (h : Got D O W H0 H (.lst ds) c v) (hd : Hid O W H0 H) : ∃ a xs, v = .ref a /\ H a = some (.lst xs) /\ RepL D (L2.wo (q1N O W c) H) ds xs := by
 cases c with
 | weak => exact h.lst hd
 | top => exact h.items hd (by intro z; cases z)
 | strong => exact h.items hd (by intro z; cases z)
 | fresh => exact h.items hd (by intro z; cases z)
 | ft => exact h.items hd (by intro z; cases z)
theorem Got.tupC (h : Got D O W H0 H (.tup ds) c v) (hd : Hid O W H0 H) : ∃ a xs, v = .ref a /\ SqT D.K H a xs /\ RepL D (L2.wo (q1N O W c) H) ds xs := by
 cases c with
 | weak => exact h.tup hd
 | top => exact h.itemsT hd (by intro z; cases z)
 | strong => exact h.itemsT hd (by intro z; cases z)
 | fresh => exact h.itemsT hd (by intro z; cases z)
 | ft => exact h.itemsT hd (by intro z; cases z)
theorem Got.item (h : Rep D (L2.wo (q1N O W c) H) d v) : Got D O W H0 H d c.item v := by
 cases c <;> exact h
theorem q0I {i : Int} (hc : c ≠ .fresh := by intro z; cases z) (hc' : c ≠ .ft := by intro z; cases z) : Got D O W H0 H (.int i) c (.int i) := by
 have q : ∀ H, Rep D H (.int i) (.int i) := λ H => q0O.mpr rfl
 cases c with
 | fresh => exact absurd rfl hc
 | ft => exact absurd rfl hc'
 | weak => exact q (L2.wo O H)
 | strong => exact q (L2.wo (O ++ W) H)
 | top => exact q (L2.wo (O ++ W) H)
theorem q4v {i : Bool} : Got D O W H0 H (.bl i) .strong (.bl i) := (q3M.mpr rfl : Rep D (L2.wo (O ++ W) H) (.bl i) (.bl i))
theorem z3v : Got D O W H0 H .non .strong .non := (q2R.mpr rfl : Rep D (L2.wo (O ++ W) H) .non .non)
theorem Got.int {i : Int} (h : Got D O W H0 H (.int i) c v) (hd : Hid O W H0 H) : v = .int i := q0O.mp (h.weak hd)
theorem Got.bl {i : Bool} (h : Got D O W H0 H (.bl i) c v) (hd : Hid O W H0 H) : v = .bl i := q3M.mp (h.weak hd)
theorem Got.str {x : Str} (h : Got D O W H0 H (.str x) c v) (hd : Hid O W H0 H) : v = .str x /\ x.length <= sizeLine := q2e.mp (h.weak hd)
theorem q1W {p : Addr} {xs : List V} (hd : Hid O W H0 H) (hp : H p = none) (r : RepL D (L2.wo (O ++ W) H) ds xs) : Got D O W H0 (upd H p (.lst xs)) (.lst ds) .fresh (.ref p) := by
 refine ⟨p, xs, ds, rfl, rfl, hd.same.free hp, q0T, r.mono λ b o e => ?_⟩
 obtain ⟨hb, e⟩ := q1a e
 have hbp : b ≠ p := q0v e hp
 rw [q0A (by intro z; rcases List.mem_cons.mp z with z | z; exact hbp z; exact hb z), q0x hbp]
 exact e
theorem q5J {p : Addr} {xs : List V} (hd : Hid O W H0 H) (hp : H p = none) (r : RepL D (L2.wo O H) ds xs) : Got D O W H0 (upd H p (.lst xs)) (.lst ds) .weak (.ref p) := by
 have hpo : p ∉ O := λ z => hd.newOut hp (List.mem_append_left _ z)
 exact q0B.mpr ⟨p, xs, rfl, by rw [q0A hpo]; exact q0T, r.mono (q0u hp).wo⟩
theorem q4c {p : Addr} {xs : List V} (hd : Hid O W H0 H) (hp : H p = none) (r : RepL D (L2.wo (q1N O W c) H) ds xs) : Got D O W H0 (upd H p (.lst xs)) (.lst ds) (Cl.anew c c) (.ref p) := by
 cases c with
 | weak => exact q5J hd hp r
 | top => exact q1W hd hp r
 | strong => exact q1W hd hp r
 | fresh => exact q1W hd hp r
 | ft => exact q1W hd hp r
theorem q4w {p : Addr} {xs : List V} (hd : Hid O W H0 H) (hp : H p = none) (r : RepL D (L2.wo (O ++ W) H) ds xs) : Got D O W H0 (upd H p (.tup xs)) (.tup ds) .strong (.ref p) :=
 q0J.mpr ⟨p, xs, rfl, SqT.of (by rw [q0A (hd.newOut hp)]; exact q0T), r.mono (q0u hp).wo⟩
theorem q7X {p : Addr} {xs : List V} (hd : Hid O W H0 H) (hp : H p = none) (r : RepL D (L2.wo O H) ds xs) : Got D O W H0 (upd H p (.tup xs)) (.tup ds) .weak (.ref p) :=
 q0J.mpr ⟨p, xs, rfl, SqT.of (by rw [q0A λ z => hd.newOut hp (List.mem_append_left _ z)]; exact q0T), r.mono (q0u hp).wo⟩
theorem q7I {p : Addr} {xs : List V} (hd : Hid O W H0 H) (hp : H p = none) (r : RepL D (L2.wo (q1N O W c) H) ds xs) : Got D O W H0 (upd H p (.tup xs)) (.tup ds) c.item (.ref p) := by
 cases c with
 | weak => exact q7X hd hp r
 | top => exact q4w hd hp r
 | strong => exact q4w hd hp r
 | fresh => exact q4w hd hp r
 | ft => exact q4w hd hp r
end
inductive GotL (D : Dm) (O W : List Addr) (H0 H : Hp) : List (DV × Cl) -> List V -> Prop where
 | nil : GotL D O W H0 H [] []
 | cons {d : DV} {c : Cl} {v : V} {l : List (DV × Cl)} {vs : List V} : Got D O W H0 H d c v -> GotL D O W H0 H l vs -> GotL D O W H0 H ((d, c) :: l) (v :: vs)
section
variable {D : Dm} {O W : List Addr} {H0 H H' : Hp}
theorem GotL.repL {l : List (DV × Cl)} {vs : List V} (h : GotL D O W H0 H l vs) (hd : Hid O W H0 H) : RepL D (L2.wo O H) (l.map (·.1)) vs := by
 induction h with
 | nil => exact q0z.mpr rfl
 | cons h _ ih => exact q0k.mpr ⟨_, _, rfl, h.weak hd, ih⟩
theorem GotL.stros {l : List (DV × Cl)} {vs : List V} (h : GotL D O W H0 H l vs) (hd : Hid O W H0 H) (hs : L2.stros l = true) : RepL D (L2.wo (O ++ W) H) (l.map (·.1)) vs := by
 induction h with
 | nil => exact q0z.mpr rfl
 | cons h _ ih =>
  unfold L2.stros at hs
  rw [List.all_cons, Bool.and_eq_true] at hs
  exact q0k.mpr ⟨_, _, rfl, h.stro hd hs.1, ih hs.2⟩
theorem GotL.length {l : List (DV × Cl)} {vs : List V} (h : GotL D O W H0 H l vs) : vs.length = l.length := by
 induction h with
 | nil => rfl
 | cons _ _ ih => rw [List.length_cons, List.length_cons, ih]
theorem GotL.strong {l : List (DV × Cl)} {vs : List V} (h : GotL D O W H0 H l vs) (hd : Hid O W H0 H) (hs : (l.all λ p => p.2 == .strong || p.2 == .fresh) = true) : RepL D (L2.wo (O ++ W) H) (l.map (·.1)) vs := by
 refine h.stros hd ?_
 unfold L2.stros
 rw [List.all_eq_true] at hs ⊢
 intro p hp
 have := hs p hp
 unfold L2.stro
 cases e : p.2 <;> rw [e] at this <;> first | rfl | cases this
theorem GotL.one {d : DV} {c : Cl} {vs : List V} (h : GotL D O W H0 H [(d, c)] vs) : ∃ v, vs = [v] /\ Got D O W H0 H d c v := by
 cases h with
 | cons h t => cases t; exact ⟨_, rfl, h⟩
theorem GotL.two {d d' : DV} {c c' : Cl} {vs : List V} (h : GotL D O W H0 H [(d, c), (d', c')] vs) : ∃ v v', vs = [v, v'] /\ Got D O W H0 H d c v /\ Got D O W H0 H d' c' v' := by
 cases h with
 | cons h t => obtain ⟨v', e, h'⟩ := t.one; subst e; exact ⟨_, _, rfl, h, h'⟩
theorem GotL.three {d d' d2 : DV} {c c' c2 : Cl} {vs : List V} (h : GotL D O W H0 H [(d, c), (d', c'), (d2, c2)] vs) : ∃ v v' v2, vs = [v, v', v2] /\ Got D O W H0 H d c v /\ Got D O W H0 H d' c' v' /\ Got D O W H0 H d2 c2 v2 := by
 cases h with
 | cons h t => obtain ⟨v', v2, e, h', h2⟩ := t.two; subst e; exact ⟨_, _, _, rfl, h, h', h2⟩
end
noncomputable def O2At (H : Hp) (W : List Addr) (p : Addr) (L : List (Addr × List Int)) : Prop := p ∈ W /\ H p = some (.lst (L.map λ q => .ref q.1)) /\ (∀ q ∈ L, q.1 ∈ W /\ H q.1 = some (.lst (q.2.map V.int))) /\ (p :: L.map (·.1)).Nodup
noncomputable def o2D (L : List (Addr × List Int)) : DV := .lst (L.map λ q => .lst (q.2.map DV.int))
theorem O2At.mono {H H' : Hp} {W : List Addr} {p : Addr} {L : List (Addr × List Int)} (h : O2At H W p L) (e : Same H H') : O2At H' W p L := ⟨h.1, e _ _ h.2.1, λ q hq => ⟨(h.2.2.1 q hq).1, e _ _ (h.2.2.1 q hq).2⟩, h.2.2.2⟩
theorem O2At.sub {H : Hp} {W W' : List Addr} {p : Addr} {L : List (Addr × List Int)} (h : O2At H W p L) (e : ∀ a ∈ p :: L.map (·.1), a ∈ W -> a ∈ W') : O2At H W' p L :=
 ⟨e _ (List.mem_cons_self ..) h.1, h.2.1, λ q hq => ⟨e _ (List.mem_cons_of_mem _ (List.mem_map.mpr ⟨q, hq, rfl⟩)) (h.2.2.1 q hq).1, (h.2.2.1 q hq).2⟩, h.2.2.2⟩
theorem O2At.dom {H : Hp} {W : List Addr} {p a : Addr} {L : List (Addr × List Int)} (h : O2At H W p L) (ha : a ∈ p :: L.map (·.1)) : a ∈ W /\ ∃ xs, H a = some (.lst xs) := by
 rcases List.mem_cons.mp ha with z | z
 ·rw [z]; exact ⟨h.1, _, h.2.1⟩
 ·obtain ⟨q, hq, rfl⟩ := List.mem_map.mp z
  exact ⟨(h.2.2.1 q hq).1, _, (h.2.2.1 q hq).2⟩
theorem O2At.write {H : Hp} {W : List Addr} {p a : Addr} {o : HO} {L : List (Addr × List Int)} (h : O2At H W p L) (ha : a ∉ p :: L.map (·.1)) : O2At (upd H a o) W p L :=
 ⟨h.1, by rw [q0x λ z => ha (by rw [<- z]; exact List.mem_cons_self ..)]; exact h.2.1, λ q hq => ⟨(h.2.2.1 q hq).1, by rw [q0x λ z => ha (by rw [<- z]; exact List.mem_cons_of_mem _ (List.mem_map.mpr ⟨q, hq, rfl⟩))]; exact (h.2.2.1 q hq).2⟩, h.2.2.2⟩
structure RSt (D : Dm) (H : Hp) (σ : St) (δ : List Sv) (O W : List Addr) : Prop where
 val : ∀ (i : Nat) d, δ[i]? = some (.val d) -> ∃ v, σ[i]? = some (some v) /\ Rep D (L2.wo (O ++ W) H) d v
 own : ∀ (i : Nat) d, δ[i]? = some (.own d) -> ∃ a xs ds, d = .lst ds /\ σ[i]? = some (some (.ref a)) /\ a ∈ W /\ H a = some (.lst xs) /\ RepL D (L2.wo (O ++ W) H) ds xs
 inj : ∀ (i j : Nat) a d d', δ[i]? = some (.own d) -> δ[j]? = some (.own d') -> σ[i]? = some (some (.ref a)) -> σ[j]? = some (some (.ref a)) -> i = j
 ot : ∀ (i : Nat) d, δ[i]? = some (.ot d) -> (∃ t ts p xs ds es, d = .tup (.lst ds :: es) /\ σ[i]? = some (some (.ref t)) /\ SqT D.K (L2.wo (O ++ W) H) t (.ref p :: ts) /\ p ∈ W /\ H p = some (.lst xs) /\ RepL D (L2.wo (O ++ W) H) ds xs /\ RepL D (L2.wo (O ++ W) H) es ts /\
  ∀ (j : Nat) d', δ[j]? = some (.own d') -> σ[j]? ≠ some (some (.ref p))) /\ ∀ (j : Nat) d', δ[j]? = some (.ot d') -> j = i
 o2 : ∀ (i : Nat) d, δ[i]? = some (.o2 d) -> (∃ p L, d = o2D L /\ σ[i]? = some (some (.ref p)) /\ O2At H W p L /\ ∀ (j : Nat) d' a, δ[j]? = some (.own d') -> σ[j]? = some (some (.ref a)) -> a ∉ p :: L.map (·.1)) /\ (∀ (j : Nat) d', δ[j]? = some (.o2 d') -> j = i) /\ ∀ (j : Nat) d', δ[j]? ≠ some (.ot d')
 len : σ.length = δ.length
 hid : Hid O W H H
theorem Hid.later {O W : List Addr} {H H' : Hp} (h : Hid O W H H) (e : Same H H') : Hid O W H' H' := ⟨λ a ha q => h.ot a ha (e.free q), Same.refl _, λ a ha => by obtain ⟨xs, q⟩ := h.wl a ha; exact ⟨xs, e _ _ q⟩, h.dj⟩
theorem RSt.mono {D : Dm} {H H' : Hp} {σ : St} {δ : List Sv} {O W : List Addr} (R : RSt D H σ δ O W) (e : Same H H') : RSt D H' σ δ O W where
 val := λ i d h => by obtain ⟨v, e1, e2⟩ := R.val i d h; exact ⟨v, e1, e2.mono e.wo⟩
 own := λ i ds h => by obtain ⟨a, xs, ds, e0, e1, e2, e3, e4⟩ := R.own i ds h; exact ⟨a, xs, ds, e0, e1, e2, e _ _ e3, e4.mono e.wo⟩
 inj := R.inj
 ot := λ i d h => by
  obtain ⟨⟨t, ts, p, xs, ds, es, e0, e1, e2, e3, e4, e5, e6, e7⟩, u⟩ := R.ot i d h
  exact ⟨⟨t, ts, p, xs, ds, es, e0, e1, e.wo.tseq e2, e3, e _ _ e4, e5.mono e.wo, e6.mono e.wo, e7⟩, u⟩
 o2 := λ i d h => by
  obtain ⟨⟨p, L, e0, e1, e2, e3⟩, u, n⟩ := R.o2 i d h
  exact ⟨⟨p, L, e0, e1, e2.mono e, e3⟩, u, n⟩
 len := R.len
 hid := R.hid.later e
noncomputable def Post (D : Dm) (E : St -> XK) (σ : St) (O W : List Addr) (H0 H : Hp) (Q : VK) : Re -> Prop
 | .ok d c => ∀ v H', Same H H' -> Got D O W H0 H' d c v -> Q v H'
 | .ex c => ∀ H' C, D.mg c = some C -> Same H H' -> E σ C none H'
noncomputable def dE (D : Dm) (E : St -> XK) (δ : List Sv) (r : Re) : TE := λ σ H Q => ∃ O W, RSt D H σ δ O W /\ Post D E σ O W H H Q r
noncomputable def z7m (D : Dm) (E : St -> XK) (σ : St) (O W : List Addr) (H0 H : Hp) (Q : List V -> Hp -> Prop) : Rs -> Prop
 | .ok l => ∀ vs H', Same H H' -> GotL D O W H0 H' l vs -> Q vs H'
 | .ex c => ∀ H' C, D.mg c = some C -> Same H H' -> E σ C none H'
noncomputable def dA (D : Dm) (E : St -> XK) (δ : List Sv) (r : Rs) : TA := λ σ H Q => ∃ O W, RSt D H σ δ O W /\ z7m D E σ O W H H Q r
noncomputable def z1x (D : Dm) (E : St -> XK) (σ : St) (H : Hp) (Q : Bool -> Hp -> Prop) : Rt -> Prop
 | .ok b => ∀ H', Same H H' -> Q b H'
 | .ex c => ∀ H' C, D.mg c = some C -> Same H H' -> E σ C none H'
noncomputable def dT (D : Dm) (E : St -> XK) (δ : List Sv) (r : Rt) : TT := λ σ H Q => ∃ O W, RSt D H σ δ O W /\ z1x D E σ H Q r
theorem Post.step {D : Dm} {E : St -> XK} {σ : St} {O W : List Addr} {H0 H H1 : Hp} {Q : VK} {r : Re} (h : Post D E σ O W H0 H Q r) (e : Same H H1) : Post D E σ O W H0 H1 Q r := by
 cases r with
 | ok d c => exact λ v H' s g => h v H' (e.trans s) g
 | ex c => exact λ H' C m s => h H' C m (e.trans s)
theorem Post.later {D : Dm} {E : St -> XK} {σ : St} {O W : List Addr} {H0 H H1 : Hp} {Q : VK} {r : Re} (h : Post D E σ O W H0 H Q r) (e : Same H H1) (e0 : Same H0 H1) : Post D E σ O W H1 H1 Q r := by
 cases r with
 | ok d c => exact λ v H' s g => h v H' (e.trans s) (g.since e0)
 | ex c => exact λ H' C m s => h H' C m (e.trans s)
theorem GotL.since {D : Dm} {O W : List Addr} {H0 H1 H : Hp} {l : List (DV × Cl)} {vs : List V} (h : GotL D O W H1 H l vs) (e : Same H0 H1) : GotL D O W H0 H l vs := by
 induction h with
 | nil => exact .nil
 | cons g _ ih => exact .cons (g.since e) ih
theorem z1x.later {D : Dm} {E : St -> XK} {σ : St} {H H1 : Hp} {Q : Bool -> Hp -> Prop} {r : Rt} (h : z1x D E σ H Q r) (e : Same H H1) : z1x D E σ H1 Q r := by
 cases r with
 | ok b => exact λ H' s => h H' (e.trans s)
 | ex c => exact λ H' C m s => h H' C m (e.trans s)
theorem PE.weak {X : Cx} {e : Expr} {t t' : TE} (h : PE X e t) (k : ∀ σ H Q, t' σ H Q -> t σ H Q) : PE X e t' := λ pins s σ H Q I q => h pins s σ H Q I (k σ H Q q)
theorem PT.weak {X : Cx} {e : Expr} {t t' : TT} (h : PT X e t) (k : ∀ σ H Q, t' σ H Q -> t σ H Q) : PT X e t' := λ pins s σ H Q I q => h pins s σ H Q I (k σ H Q q)
theorem PW.weak {X : Cx} {e : Expr} {t t' : TT} (h : PW X e t) (k : ∀ σ H Q, t' σ H Q -> t σ H Q) : PW X e t' := λ whole pins s σ H Q I q => h whole pins s σ H Q I (k σ H Q q)
theorem PA.weak {X : Cx} {e : List Expr} {t t' : TA} (h : PA X e t) (k : ∀ σ H Q, t' σ H Q -> t σ H Q) : PA X e t' := λ pos pins s σ H Q I q => h pos pins s σ H Q I (k σ H Q q)
theorem PS.weak {X : Cx} {e : Stmt} {t t' : TS} (h : PS X e t) (k : ∀ D σ H, t' D σ H -> t D σ H) : PS X e t' := λ pins s σ H D I q => h pins s σ H D I (k D σ H q)
theorem PSs.weak {X : Cx} {e : List Stmt} {t t' : TS} (h : PSs X e t) (k : ∀ D σ H, t' D σ H -> t D σ H) : PSs X e t' := λ pins s σ H D I q => h pins s σ H D I (k D σ H q)
theorem q5P {X : Cx} {e : Expr} : PW X e (λ _ _ _ => False) := λ _ _ _ _ _ _ _ h => h.elim
theorem q5j {X : Cx} {e : Expr} : PT X e (λ _ _ _ => False) := λ _ _ _ _ _ _ h => h.elim
theorem q1I {X : Cx} {e : Expr} : PE X e (λ _ _ _ => False) := λ _ _ _ _ _ _ h => h.elim
theorem z3i {X : Cx} {e : List Expr} : PA X e (λ _ _ _ => False) := λ _ _ _ _ _ _ _ h => h.elim
end L2
end
section
namespace L2
open PySem PySem.Spec PyProof.Rows
theorem q2c {n : Nat} (h : n <= mostLen) : n <= sizeLine := Nat.le_trans h (by decide)
section
variable {X : Cx} {E : St -> XK} {δ : List Sv} {a b c e : Expr} {es : List Expr}
theorem z5n {r : V -> Hp -> VK -> Prop} {k : DV -> Cl -> Option Re} {ra : Option Re} {re : Re} (hop : ∀ ta, PE X a ta -> PE X e (tUn r ta)) (ha : ∀ q, ra = some q -> PE X a (dE X.D E δ q)) (h : Re.thn ra k = some re)
  (hr : ∀ O W H0 H x Q dx cx σ, k dx cx = some re -> Hid O W H0 H -> Got X.D O W H0 H dx cx x -> Post X.D E σ O W H0 H Q re -> r x H Q) : PE X e (dE X.D E δ re) := by
 cases hra : ra with
 | none => rw [hra] at h; cases h
 | some q =>
  rw [hra] at h
  have A := ha q hra
  cases q with
  | ex c =>
   cases h
   exact (hop _ A).weak λ σ H Q ⟨O, W, R, p⟩ => ⟨O, W, R, p⟩
  | ok dx cx =>
   have h' : k dx cx = some re := h
   exact (hop _ A).weak λ σ H Q ⟨O, W, R, p⟩ => ⟨O, W, R, λ x H1 s1 g1 => hr O W H H1 x Q dx cx σ h' (R.hid.mono s1) g1 (p.step s1)⟩
theorem q7H {r : R2} {k : DV -> Cl -> DV -> Cl -> Option Re} {ra rb : Option Re} {re : Re} (ha : ∀ q, ra = some q -> PE X a (dE X.D E δ q)) (hb : ∀ q, rb = some q -> PE X b (dE X.D E δ q))
  (h : (Re.thn ra λ x cx => Re.thn rb λ y cy => k x cx y cy) = some re)
  (hr : ∀ O W H0 H x y Q dx cx dy cy σ, k dx cx dy cy = some re -> Hid O W H0 H -> Got X.D O W H0 H dx cx x -> Got X.D O W H0 H dy cy y -> Post X.D E σ O W H0 H Q re -> r x y H Q) :
  ∃ ta tb, PE X a ta /\ PE X b tb /\ ∀ σ H Q, dE X.D E δ re σ H Q -> tOp r ta tb σ H Q := by
 cases hra : ra with
 | none => rw [hra] at h; cases h
 | some q =>
  rw [hra] at h
  have A := ha q hra
  cases q with
  | ex c =>
   cases h
   exact ⟨_, _, A, q1I, λ σ H Q ⟨O, W, R, p⟩ => ⟨O, W, R, p⟩⟩
  | ok dx cx =>
   have h' : (Re.thn rb λ y cy => k dx cx y cy) = some re := h
   cases hrb : rb with
   | none => rw [hrb] at h'; cases h'
   | some q =>
    rw [hrb] at h'
    have B := hb q hrb
    cases q with
    | ex c =>
     cases h'
     exact ⟨_, _, A, B, λ σ H Q ⟨O, W, R, p⟩ => ⟨O, W, R, λ x H1 s1 g1 => ⟨O, W, R.mono s1, λ H' C m s => p H' C m (s1.trans s)⟩⟩⟩
    | ok dy cy =>
     have h2 : k dx cx dy cy = some re := h'
     exact ⟨_, _, A, B, λ σ H Q ⟨O, W, R, p⟩ => ⟨O, W, R, λ x H1 s1 g1 => ⟨O, W, R.mono s1, λ y H2 s2 g2 =>
      hr O W H H2 x y Q dx cx dy cy σ h2 ((R.hid.mono s1).mono s2) (g1.mono s2) (g2.since s1) (p.step (s1.trans s2))⟩⟩⟩
theorem z0i {r : R2} {k : DV -> Cl -> DV -> Cl -> Option Re} {ra rb : Option Re} {re : Re} (hop : ∀ ta tb, PE X a ta -> PE X b tb -> PE X e (tOp r ta tb)) (ha : ∀ q, ra = some q -> PE X a (dE X.D E δ q)) (hb : ∀ q, rb = some q -> PE X b (dE X.D E δ q))
  (h : (Re.thn ra λ x cx => Re.thn rb λ y cy => k x cx y cy) = some re)
  (hr : ∀ O W H0 H x y Q dx cx dy cy σ, k dx cx dy cy = some re -> Hid O W H0 H -> Got X.D O W H0 H dx cx x -> Got X.D O W H0 H dy cy y -> Post X.D E σ O W H0 H Q re -> r x y H Q) : PE X e (dE X.D E δ re) := by
 obtain ⟨ta, tb, A, B, q⟩ := q7H ha hb h hr
 exact (hop _ _ A B).weak q
theorem q3n {r : List V -> Hp -> VK -> Prop} {k : List (DV × Cl) -> Option Re} {ra : Option Rs} {re : Re} (hop : ∀ t, PA X es t -> PE X e (tCB r t)) (ha : ∀ q, ra = some q -> PA X es (dA X.D E δ q)) (h : Rs.thn ra k = some re)
  (hr : ∀ O W H0 H vs Q l σ, k l = some re -> Hid O W H0 H -> GotL X.D O W H0 H l vs -> Post X.D E σ O W H0 H Q re -> r vs H Q) : PE X e (dE X.D E δ re) := by
 cases hra : ra with
 | none => rw [hra] at h; cases h
 | some q =>
  rw [hra] at h
  have A := ha q hra
  cases q with
  | ex c =>
   cases h
   exact (hop _ A).weak λ σ H Q ⟨O, W, R, p⟩ => ⟨O, W, R, p⟩
  | ok l =>
   have h' : k l = some re := h
   exact (hop _ A).weak λ σ H Q ⟨O, W, R, p⟩ => ⟨O, W, R, λ vs H1 s1 g1 => hr O W H H1 vs Q l σ h' (R.hid.mono s1) g1 (p.step s1)⟩
end
theorem q7n {D : Dm} {H : Hp} : ∀ {L : List (Addr × List Int)}, (∀ q ∈ L, H q.1 = some (.lst (q.2.map V.int))) -> RepL D H (L.map λ q => .lst (q.2.map DV.int)) (L.map λ q => .ref q.1)
 | [], _ => q0z.mpr rfl
 | q :: L, h => q0k.mpr ⟨_, _, rfl, q0B.mpr ⟨q.1, _, rfl, h q (List.mem_cons_self ..), q2b _⟩, q7n λ q' hq => h q' (List.mem_cons_of_mem _ hq)⟩
section
variable {X : Cx} {E : St -> XK} {δ : List Sv} {pos : Pos}
theorem z4m {i : Nat} {x : Str} {r : Re} (hN : X.N[i]? = some x) (hv : Vis X.env.scope x) (hd : (x == ("__debug__" : Str)) = false) (hcd : (x == ("__classdict__" : Str)) = false)
  (h : (match δ[i]? with | some (.val d) => some (Re.ok d .strong) | some (.own d) => some (.ok d .top) | some (.ot d) => some (.ok d .weak) | some (.o2 d) => some (.ok d .weak) | _ => none) = some r) : PE X (.Name x pos) (dE X.D E δ r) :=
 (q5W hN hv hd hcd).weak λ σ H Q ⟨O, W, R, p⟩ => by
  split at h
  ·rename_i d q
   cases h
   obtain ⟨v, e1, e2⟩ := R.val i d q
   exact ⟨v, e1, p v H (Same.refl H) e2⟩
  ·rename_i d q
   cases h
   obtain ⟨a, xs, ds, e0, e1, e2, e3, e4⟩ := R.own i d q
   subst e0
   refine ⟨.ref a, e1, p _ H (Same.refl H) ⟨a, xs, rfl, e2, ?_, e4⟩⟩
   rw [q0A (R.hid.dj a e2)]
   exact e3
  ·rename_i d q
   cases h
   obtain ⟨⟨t, ts, p1, xs, ds, es, e0, e1, e2, e3, e4, e5, e6, e7⟩, _⟩ := R.ot i d q
   subst e0
   have up : Same (L2.wo (O ++ W) H) (L2.wo O H) := q0R q5Y
   refine ⟨.ref t, e1, p _ H (Same.refl H) (q0J.mpr ⟨t, _, rfl, up.tseq e2, q0k.mpr ⟨_, _, rfl, q0B.mpr ⟨p1, xs, rfl, ?_, e5.mono up⟩, e6.mono up⟩⟩ : Rep X.D (L2.wo O H) (.tup (.lst ds :: es)) (.ref t))⟩
   rw [q0A (R.hid.dj p1 e3)]
   exact e4
  ·rename_i d q
   cases h
   obtain ⟨⟨a, L, e0, e1, e2, _⟩, _, _⟩ := R.o2 i d q
   subst e0
   refine ⟨.ref a, e1, p _ H (Same.refl H) (q0B.mpr ⟨a, _, rfl, by rw [q0A (R.hid.dj a e2.1)]; exact e2.2.1, ?_⟩ : Rep X.D (L2.wo O H) (o2D L) (.ref a))⟩
   exact q7n λ q hq => by rw [q0A (R.hid.dj q.1 (e2.2.2.1 q hq).1)]; exact (e2.2.2.1 q hq).2
  ·cases h
theorem z3x {i : Int} {j : Nat} : PE X (.Constant (.int i) j pos) (dE X.D E δ (.ok (.int i) .strong)) := z5H.weak λ σ H Q ⟨O, W, R, p⟩ => p _ H (Same.refl H) q0I
theorem z6L {i : Bool} {j : Nat} : PE X (.Constant (.bool i) j pos) (dE X.D E δ (.ok (.bl i) .strong)) := z7z.weak λ σ H Q ⟨O, W, R, p⟩ => p _ H (Same.refl H) q4v
theorem z3c {i : Str} {j : Nat} (h : i.length <= sizeLine) : PE X (.Constant (.str i) j pos) (dE X.D E δ (.ok (.str i) .strong)) := z5L.weak λ σ H Q ⟨O, W, R, p⟩ => p _ H (Same.refl H) (q2e.mpr ⟨rfl, h⟩ : Rep X.D (L2.wo (O ++ W) H) (.str i) (.str i))
theorem z4z {j : Nat} : PE X (.Constant .none j pos) (dE X.D E δ (.ok .non .strong)) := z6o.weak λ σ H Q ⟨O, W, R, p⟩ => p _ H (Same.refl H) z3v
end
section
variable {X : Cx} {E : St -> XK} {δ : List Sv} {a b c e : Expr} {pos : Pos} {ra rb : Option Re} {re : Re}
theorem z0T {O W : List Addr} {H0 H : Hp} {C : Int -> Int -> Prop} {g : Int -> Int -> V} {x y : V} {Q : VK} {i j : Int} {ca cb : Cl} {D : Dm} (hd : Hid O W H0 H) (gx : Got D O W H0 H (.int i) ca x) (gy : Got D O W H0 H (.int j) cb y) (hc : C i j) (q : Q (g i j) H) : rI C g x y H Q :=
 ⟨i, j, gx.int hd, gy.int hd, hc, q⟩
theorem z2g {O W : List Addr} {H0 H : Hp} {g : Int -> Int -> V} {x y : V} {Q : VK} {i j : Int} {ca cb : Cl} {D : Dm} (hd : Hid O W H0 H) (gx : Got D O W H0 H (.int i) ca x) (gy : Got D O W H0 H (.int j) cb y) (q : Q (g i j) H) : rI0 g x y H Q :=
 ⟨i, j, gx.int hd, gy.int hd, q⟩
theorem z4h {ca cb : Cl} (h : ca ≠ .weak) (h' : cb ≠ .weak) : Cl.anew ca cb = .fresh := by
 cases ca <;> cases cb <;> first | rfl | exact absurd rfl h | exact absurd rfl h'
noncomputable def binR (X : Cx) : Operator -> R2
 | .Add => λ x y H Q => rI0 (λ i j => .int (i + j)) x y H Q \/ rCat x y H Q
 | .Sub => rI0 λ i j => .int (i - j)
 | .Mult => λ x y H Q => rI CMul (λ i j => .int (i * j)) x y H Q \/ rRep x y H Q
 | .Mod => rI (λ _ j => 0 < j) λ i j => .int (i % j)
 | .FloorDiv => rI CDiv λ i j => .int (i / j)
 | .RShift => rI (λ _ j => 0 <= j) λ i j => .int (i / 2 ^ j.toNat)
 | _ => λ _ _ _ _ => False
theorem z6J {op : Operator} : OpR X (binaryOp op) (binR X op) := by
 cases op with
 | Add => exact z6d.or z5e
 | Sub => exact z6i
 | Mult => exact z6m.or z5l
 | Mod => exact z6D
 | FloorDiv => exact z3b
 | LShift => exact λ _ _ _ _ _ _ _ _ _ _ _ _ h => h.elim
 | RShift => exact z6n
 | BitAnd => exact λ _ _ _ _ _ _ _ _ _ _ _ _ h => h.elim
 | BitOr => exact λ _ _ _ _ _ _ _ _ _ _ _ _ h => h.elim
 | BitXor => exact λ _ _ _ _ _ _ _ _ _ _ _ _ h => h.elim
 | MatMult => exact λ _ _ _ _ _ _ _ _ _ _ _ _ h => h.elim
 | Div => exact λ _ _ _ _ _ _ _ _ _ _ _ _ h => h.elim
 | Pow => exact λ _ _ _ _ _ _ _ _ _ _ _ _ h => h.elim
theorem z5D {O W : List Addr} {H0 H : Hp} {op : Operator} {x y : V} {dx dy : DV} {cx cy : Cl} {Q : VK} {σ : St} (h : binD op dx dy cx cy = some re) (hd : Hid O W H0 H) (gx : Got X.D O W H0 H dx cx x) (gy : Got X.D O W H0 H dy cy y)
  (p : Post X.D E σ O W H0 H Q re) : binR X op x y H Q := by
 unfold binD at h
 split at h
 ·cases h; exact .inl (z2g hd gx gy (p _ H (Same.refl H) q0I))
 ·cases h; exact z2g hd gx gy (p _ H (Same.refl H) q0I)
 ·split at h
  ·rename_i m
   cases h
   refine .inl (z0T hd gx gy ?_ (p _ H (Same.refl H) q0I))
   unfold q4y at m
   simp only [Bool.or_eq_true, Bool.and_eq_true, decide_eq_true_eq] at m
   exact m
  ·cases h
 ·split at h
  ·rename_i m; cases h; exact z0T hd gx gy m (p _ H (Same.refl H) q0I)
  ·cases h
 ·split at h
  ·rename_i m; cases h; exact z0T hd gx gy m (p _ H (Same.refl H) q0I)
  ·cases h
 ·split at h
  ·rename_i m; cases h; exact z0T hd gx gy m (p _ H (Same.refl H) q0I)
  ·cases h
 ·rename_i xs ys
  split at h
  ·rename_i m
   cases h
   by_cases hw : cx ≠ .weak /\ cy ≠ .weak
   ·obtain ⟨l1, v1, e1, k1, r1⟩ := gx.items hd hw.1
    obtain ⟨l2, v2, e2, k2, r2⟩ := gy.items hd hw.2
    refine .inr (⟨l1, l2, v1, v2, e1, e2, k1, k2, by rw [r1.length, r2.length]; exact q2c m, λ q hq => p _ _ (q0u hq) ?_⟩)
    rw [z4h hw.1 hw.2]
    exact q1W hd hq (r1.append r2)
   ·obtain ⟨l1, v1, e1, k1, r1⟩ := gx.lst hd
    obtain ⟨l2, v2, e2, k2, r2⟩ := gy.lst hd
    refine .inr (⟨l1, l2, v1, v2, e1, e2, k1, k2, by rw [r1.length, r2.length]; exact q2c m, λ q hq => p _ _ (q0u hq) ?_⟩)
    have : Cl.anew cx cy = .weak := by
     cases cx <;> cases cy <;> first | rfl | exact absurd ⟨(by intro z; cases z), (by intro z; cases z)⟩ hw
    rw [this]
    exact q5J hd hq (r1.append r2)
  ·cases h
 ·cases h
theorem z4e {op : Operator} (ha : ∀ q, ra = some q -> PE X a (dE X.D E δ q)) (hb : ∀ q, rb = some q -> PE X b (dE X.D E δ q)) (h : (Re.thn ra λ x cx => Re.thn rb λ y cy => binD op x y cx cy) = some re) : PE X (.BinOp a op b pos) (dE X.D E δ re) :=
 z0i (λ _ _ => z7a z6J) ha hb h λ O W H0 H x y Q dx cx dy cy σ k hd gx gy p => z5D k hd gx gy p
theorem z6s {ds : List DV} {i : Int} : atD ds i = L2.atI ds i := rfl
theorem RepL.atI {D : Dm} {H : Hp} {ds : List DV} {xs : List V} {i : Int} {d : DV} (h : RepL D H ds xs) (e : atD ds i = some d) : ∃ v, L2.atI xs i = some v /\ Rep D H d v := by
 rw [z6s] at e
 unfold L2.atI at e ⊢
 rw [h.length]
 cases q : ixN ds.length i with
 | none => rw [q] at e; cases e
 | some j =>
  rw [q] at e
  exact h.get e
theorem z8c {O W : List Addr} {H0 H : Hp} {x y : V} {dx dy : DV} {cx cy : Cl} {Q : VK} {σ : St} (h : ((ixD dx dy).map λ d => Re.ok d cx.item) = some re) (hd : Hid O W H0 H) (gx : Got X.D O W H0 H dx cx x) (gy : Got X.D O W H0 H dy cy y)
  (p : Post X.D E σ O W H0 H Q re) : rIx X.K x y H Q := by
 obtain ⟨d, h1, h2⟩ := Option.map_eq_some_iff.mp h
 cases h2
 unfold ixD at h1
 split at h1
 ·rename_i ns i
  obtain ⟨a, e1, e2⟩ := q1V.mp (gx.all hd)
  obtain ⟨n, h3, h4⟩ := Option.map_eq_some_iff.mp h1
  cases h4
  have q : L2.atI (ns.map V.int) i = some (.int n) := by
   unfold L2.atI
   rw [List.length_map]
   have h3' : ((ixN ns.length i).bind λ j => ns[j]?) = some n := h3
   cases z : ixN ns.length i with
   | none => rw [z] at h3'; cases h3'
   | some j =>
    rw [z] at h3'
    have h5 : ns[j]? = some n := h3'
    show (ns.map V.int)[j]? = _
    rw [List.getElem?_map, h5]; rfl
  refine .inl ⟨a, _, i, _, e1, gy.int hd, e2.sq, q, p _ H (Same.refl H) ?_⟩
  cases cx <;> exact q0I
 ·obtain ⟨a, xs, e1, e2, e3⟩ := gx.lstC hd
  obtain ⟨v, q1, q2⟩ := e3.atI h1
  exact .inl ⟨a, xs, _, v, e1, gy.int hd, SqL.of e2, q1, p _ H (Same.refl H) (Got.item q2)⟩
 ·obtain ⟨a, xs, e1, e2, e3⟩ := gx.tupC hd
  obtain ⟨v, q1, q2⟩ := e3.atI h1
  exact .inr (.inl ⟨a, xs, _, v, e1, gy.int hd, e2, q1, p _ H (Same.refl H) (Got.item q2)⟩)
 ·rename_i z i
  obtain ⟨e1, e2⟩ := gx.str hd
  cases q : q2a z.cps.size i with
  | none => rw [q] at h1; cases h1
  | some j =>
   rw [q] at h1
   obtain ⟨ch, h3, h4⟩ := Option.map_eq_some_iff.mp (show ((z.cps[j]?).map λ c => DV.str ⟨#[c]⟩) = some d from h1)
   cases h4
   refine .inr (.inr ⟨z, i, ch, e1, gy.int hd, e2, ?_, p _ H (Same.refl H) ?_⟩)
   ·unfold L2.atI
    have : ixN z.cps.toList.length i = some j := by rw [Array.length_toList]; exact q
    rw [this]
    show z.cps.toList[j]? = some ch
    rw [Array.getElem?_toList]; exact h3
   ·have one : Rep X.D (L2.wo (O ++ W) H) (.str ⟨#[ch]⟩) (.str ⟨#[ch]⟩) := q2e.mpr ⟨rfl, by show (1 : Nat) <= sizeLine; decide⟩
    have one' : Rep X.D (L2.wo O H) (.str ⟨#[ch]⟩) (.str ⟨#[ch]⟩) := q2e.mpr ⟨rfl, by show (1 : Nat) <= sizeLine; decide⟩
    cases cx <;> first | exact one | exact one'
 ·cases h1
theorem z6K (ha : ∀ q, ra = some q -> PE X a (dE X.D E δ q)) (hb : ∀ q, rb = some q -> PE X b (dE X.D E δ q)) (hs : q5A b = false) (h : (Re.thn ra λ x cx => Re.thn rb λ y _ => (ixD x y).map λ d => .ok d cx.item) = some re) : PE X (.Subscript a b pos) (dE X.D E δ re) :=
 z0i (λ _ _ h1 h2 => z7o z5d h1 h2 (by cases b <;> first | (intro _ _; rfl) | cases hs)) ha hb h λ O W H0 H x y Q dx cx dy cy σ k hd gx gy p => z8c k hd gx gy p
theorem q5v (n d : Nat) (o : Option Int) : slIx n d o = HT.sIx n d o := by cases o <;> rfl
theorem RepL.cut {D : Dm} {H : Hp} {ds : List DV} {xs : List V} (h : RepL D H ds xs) (lo hi : Option Int) : RepL D H (cutD ds lo hi) (cutV xs lo hi) := by
 unfold cutD cutV
 rw [q5v, q5v, <- h.length]
 exact (h.drop _).take _
theorem z3F {O W : List Addr} {H0 H : Hp} {x : V} {dx : DV} {cx : Cl} {Q : VK} {σ : St} {lo hi : Option Int} (h : ((slD dx lo hi).map λ d => Re.ok d (slCl dx cx)) = some re) (hd : Hid O W H0 H) (gx : Got X.D O W H0 H dx cx x)
  (p : Post X.D E σ O W H0 H Q re) : rSlL X.K x lo hi H Q \/ rSlT X.K x lo hi H Q := by
 obtain ⟨d, h1, h2⟩ := Option.map_eq_some_iff.mp h
 cases h2
 unfold slD at h1
 split at h1
 ·rename_i ns
  cases h1
  obtain ⟨a, e1, e2⟩ := q1V.mp (gx.all hd)
  exact .inl ⟨a, _, e1, e2.sq, λ q hq => p _ _ (q0u hq) (q1W hd hq ((q2b ns).cut lo hi))⟩
 ·cases h1
  obtain ⟨a, xs, e1, e2, e3⟩ := gx.lstC hd
  exact .inl ⟨a, xs, e1, SqL.of e2, λ q hq => p _ _ (q0u hq) (q4c hd hq (e3.cut lo hi))⟩
 ·rename_i ds
  split at h1
  ·cases h1
  ·rename_i m
   cases h1
   obtain ⟨a, xs, e1, e2, e3⟩ := gx.tupC hd
   refine .inr ⟨a, xs, e1, e2, ?_, λ q hq => p _ _ (q0u hq) (q7I hd hq (e3.cut lo hi))⟩
   rw [q5v, q5v, <- e3.length] at m
   exact m
 ·cases h1
theorem q2P : SlR X (λ x lo hi H Q => rSlL X.K x lo hi H Q \/ rSlT X.K x lo hi H Q) := z3N.or z5F
theorem q6j {i : Int} {cl : Cl} (h : PE X b (dE X.D E δ (.ok (.int i) cl))) : PO X (some b) (λ σ H Q => ∃ O W, RSt X.D H σ δ O W /\ ∀ H', Same H H' -> Q (some i) H') := λ pins s σ H Q I ⟨O, W, R, p⟩ =>
 q9e h pins s σ H Q I ⟨O, W, R, λ v H' s1 g => ⟨i, g.int (R.hid.mono s1), p H' s1⟩⟩
theorem z1b {c : Str} (h : PE X b (dE X.D E δ (.ex c))) : PO X (some b) (λ σ H Q => ∃ O W, RSt X.D H σ δ O W /\ Post X.D E σ O W H H (λ _ _ => False) (.ex c)) := λ pins s σ H Q I ⟨O, W, R, p⟩ =>
 q9e h pins s σ H Q I ⟨O, W, R, p⟩
theorem q3f {o : Option Expr} : PO X o (λ _ _ _ => False) := λ _ _ _ _ _ _ h => h.elim
theorem z3V {p2 : Pos} (ha : ∀ q, ra = some q -> PE X a (dE X.D E δ q)) (hb : ∀ q, rb = some q -> PE X b (dE X.D E δ q)) (h : (Re.thn ra λ x cx => Re.thn rb λ l _ => match l with
  | .int l => (slD x (some l) none).map λ d => .ok d (slCl x cx) | _ => none) = some re) : PE X (.Subscript a (.Slice (some b) none none p2) pos) (dE X.D E δ re) := by
 cases hra : ra with
 | none => rw [hra] at h; cases h
 | some q =>
  rw [hra] at h
  have A := ha q hra
  cases q with
  | ex c => cases h; exact (q1t q2P A q3f q3C).weak λ σ H Q ⟨O, W, R, p⟩ => ⟨O, W, R, p⟩
  | ok dx cx =>
   cases hrb : rb with
   | none => rw [hrb] at h; cases h
   | some q =>
    rw [hrb] at h
    have B := hb q hrb
    cases q with
    | ex c => cases h; exact (q1t q2P A (z1b B) q3C).weak λ σ H Q ⟨O, W, R, p⟩ => ⟨O, W, R, λ x H1 s1 g1 => ⟨O, W, R.mono s1, λ H' C m s => p H' C m (s1.trans s)⟩⟩
    | ok dy cy =>
     have h' : (match (generalizing := false) dy with | .int l => (slD dx (some l) none).map λ d => Re.ok d (slCl dx cx) | _ => none) = some re := h
     split at h'
     ·rename_i l
      exact (q1t q2P A (q6j B) q3C).weak λ σ H Q ⟨O, W, R, p⟩ => ⟨O, W, R, λ x H1 s1 g1 => ⟨O, W, R.mono s1, λ H2 s2 => z3F h' ((R.hid.mono s1).mono s2) (g1.mono s2) (p.step (s1.trans s2))⟩⟩
     ·cases h'
theorem z4n {p2 : Pos} (ha : ∀ q, ra = some q -> PE X a (dE X.D E δ q)) (hb : ∀ q, rb = some q -> PE X b (dE X.D E δ q)) (h : (Re.thn ra λ x cx => Re.thn rb λ l _ => match l with
  | .int l => (slD x none (some l)).map λ d => .ok d (slCl x cx) | _ => none) = some re) : PE X (.Subscript a (.Slice none (some b) none p2) pos) (dE X.D E δ re) := by
 cases hra : ra with
 | none => rw [hra] at h; cases h
 | some q =>
  rw [hra] at h
  have A := ha q hra
  cases q with
  | ex c => cases h; exact (q1t q2P A q3C q3f).weak λ σ H Q ⟨O, W, R, p⟩ => ⟨O, W, R, p⟩
  | ok dx cx =>
   cases hrb : rb with
   | none => rw [hrb] at h; cases h
   | some q =>
    rw [hrb] at h
    have B := hb q hrb
    cases q with
    | ex c => cases h; exact (q1t q2P A q3C (z1b B)).weak λ σ H Q ⟨O, W, R, p⟩ => ⟨O, W, R, λ x H1 s1 g1 => ⟨O, W, R.mono s1, λ H' C m s => p H' C m (s1.trans s)⟩⟩
    | ok dy cy =>
     have h' : (match (generalizing := false) dy with | .int l => (slD dx none (some l)).map λ d => Re.ok d (slCl dx cx) | _ => none) = some re := h
     split at h'
     ·rename_i l
      exact (q1t q2P A q3C (q6j B)).weak λ σ H Q ⟨O, W, R, p⟩ => ⟨O, W, R, λ x H1 s1 g1 => ⟨O, W, R.mono s1, λ H2 s2 => z3F h' ((R.hid.mono s1).mono s2) (g1.mono s2) (p.step (s1.trans s2))⟩⟩
     ·cases h'
theorem z5V {p2 : Pos} {rc : Option Re} (ha : ∀ q, ra = some q -> PE X a (dE X.D E δ q)) (hb : ∀ q, rb = some q -> PE X b (dE X.D E δ q)) (hc : ∀ q, rc = some q -> PE X c (dE X.D E δ q)) (h : (Re.thn ra λ x cx => Re.thn rb λ l _ => match l with
  | .int l => Re.thn rc λ u _ => (match u with
   | .int u => (slD x (some l) (some u)).map λ d => .ok d (slCl x cx) | _ => none) | _ => none) = some re) : PE X (.Subscript a (.Slice (some b) (some c) none p2) pos) (dE X.D E δ re) := by
 cases hra : ra with
 | none => rw [hra] at h; cases h
 | some q =>
  rw [hra] at h
  have A := ha q hra
  cases q with
  | ex c => cases h; exact (q1t q2P A q3f q3f).weak λ σ H Q ⟨O, W, R, p⟩ => ⟨O, W, R, p⟩
  | ok dx cx =>
   cases hrb : rb with
   | none => rw [hrb] at h; cases h
   | some q =>
    rw [hrb] at h
    have B := hb q hrb
    cases q with
    | ex c => cases h; exact (q1t q2P A (z1b B) q3f).weak λ σ H Q ⟨O, W, R, p⟩ => ⟨O, W, R, λ x H1 s1 g1 => ⟨O, W, R.mono s1, λ H' C m s => p H' C m (s1.trans s)⟩⟩
    | ok dy cy =>
     have h' : (match (generalizing := false) dy with | .int l => Re.thn rc λ u _ => (match u with | .int u => (slD dx (some l) (some u)).map λ d => Re.ok d (slCl dx cx) | _ => none) | _ => none) = some re := h
     split at h'
     ·rename_i l
      cases hrc : rc with
      | none => rw [hrc] at h'; cases h'
      | some q =>
       rw [hrc] at h'
       have C := hc q hrc
       cases q with
       | ex c' =>
        cases h'
        exact (q1t q2P A (q6j B) (z1b C)).weak λ σ H Q ⟨O, W, R, p⟩ => ⟨O, W, R, λ x H1 s1 g1 => ⟨O, W, R.mono s1, λ H2 s2 => ⟨O, W, (R.mono s1).mono s2, λ H' C m s => p H' C m (s1.trans (s2.trans s))⟩⟩⟩
       | ok dz cz =>
        have h2 : (match (generalizing := false) dz with | .int u => (slD dx (some l) (some u)).map λ d => Re.ok d (slCl dx cx) | _ => none) = some re := h'
        split at h2
        ·rename_i u
         exact (q1t q2P A (q6j B) (q6j C)).weak λ σ H Q ⟨O, W, R, p⟩ => ⟨O, W, R, λ x H1 s1 g1 => ⟨O, W, R.mono s1, λ H2 s2 => ⟨O, W, (R.mono s1).mono s2, λ H3 s3 => z3F h2 (((R.hid.mono s1).mono s2).mono s3) ((g1.mono s2).mono s3) (p.step (s1.trans (s2.trans s3)))⟩⟩⟩
        ·cases h2
     ·cases h'
end
end L2
end
section
namespace L2
open PySem PySem.Spec PyProof.Rows
mutual
noncomputable def toP : DV -> PyData
 | .non => .none | .bl b => .bool b | .int i => .int i | .str x => .str x
 | .tup ds => .tuple (toPs ds) | .lst ds => .list (toPs ds)
 | _ => .none
noncomputable def toPs : List DV -> List PyData
 | [] => []
 | d :: r => toP d :: toPs r
end
mutual
theorem q4H : ∀ (n m : Nat) (d e : DV), d.plain n = true -> e.plain m = true -> PyData.eqv (toP d) (toP e) = deq d e
 | n, m, .non, e, _, h => by cases e <;> first | (cases m <;> simp [DV.plain] at h; done) | (simp only [toP, PyData.eqv, deq])
 | n, m, .bl _, e, _, h => by cases e <;> first | (cases m <;> simp [DV.plain] at h; done) | (simp only [toP, PyData.eqv, deq])
 | n, m, .int _, e, _, h => by cases e <;> first | (cases m <;> simp [DV.plain] at h; done) | (simp only [toP, PyData.eqv, deq])
 | n, m, .str x, e, _, h => by
  cases e with
  | str y => simp only [toP, PyData.eqv, deq]; rfl
  | non => simp only [toP, PyData.eqv, deq]
  | bl _ => simp only [toP, PyData.eqv, deq]
  | int _ => simp only [toP, PyData.eqv, deq]
  | tup _ => simp only [toP, PyData.eqv, deq]
  | lst _ => simp only [toP, PyData.eqv, deq]
  | dct _ _ => cases m <;> simp [DV.plain] at h
  | exc _ => cases m <;> simp [DV.plain] at h
  | fn _ => cases m <;> simp [DV.plain] at h
  | scr _ => cases m <;> simp [DV.plain] at h
 | 0, _, .tup _, _, h, _ => by simp [DV.plain] at h
 | 0, _, .lst _, _, h, _ => by simp [DV.plain] at h
 | n + 1, m, .tup ds, e, h, h' => by
  cases e with
  | tup es =>
   cases m with
   | zero => simp [DV.plain] at h'
   | succ m =>
    simp only [toP, PyData.eqv, deq]
    exact q5z n m ds es (by simpa [DV.plain] using h) (by simpa [DV.plain] using h')
  | non => simp only [toP, PyData.eqv, deq]
  | bl _ => simp only [toP, PyData.eqv, deq]
  | int _ => simp only [toP, PyData.eqv, deq]
  | str _ => simp only [toP, PyData.eqv, deq]
  | lst _ => simp only [toP, PyData.eqv, deq]
  | dct _ _ => cases m <;> simp [DV.plain] at h'
  | exc _ => cases m <;> simp [DV.plain] at h'
  | fn _ => cases m <;> simp [DV.plain] at h'
  | scr _ => cases m <;> simp [DV.plain] at h'
 | n + 1, m, .lst ds, e, h, h' => by
  cases e with
  | lst es =>
   cases m with
   | zero => simp [DV.plain] at h'
   | succ m =>
    simp only [toP, PyData.eqv, deq]
    exact q5z n m ds es (by simpa [DV.plain] using h) (by simpa [DV.plain] using h')
  | non => simp only [toP, PyData.eqv, deq]
  | bl _ => simp only [toP, PyData.eqv, deq]
  | int _ => simp only [toP, PyData.eqv, deq]
  | str _ => simp only [toP, PyData.eqv, deq]
  | tup _ => simp only [toP, PyData.eqv, deq]
  | dct _ _ => cases m <;> simp [DV.plain] at h'
  | exc _ => cases m <;> simp [DV.plain] at h'
  | fn _ => cases m <;> simp [DV.plain] at h'
  | scr _ => cases m <;> simp [DV.plain] at h'
 | n, _, .dct _ _, _, h, _ => by cases n <;> simp [DV.plain] at h
 | n, _, .exc _, _, h, _ => by cases n <;> simp [DV.plain] at h
 | n, _, .fn _, _, h, _ => by cases n <;> simp [DV.plain] at h
 | n, _, .scr _, _, h, _ => by cases n <;> simp [DV.plain] at h
theorem q5z : ∀ (n m : Nat) (ds es : List DV), DV.plains n ds = true -> DV.plains m es = true -> PyData.eqvAll (toPs ds) (toPs es) = deqs ds es
 | _, _, [], [], _, _ => by simp only [toPs, PyData.eqvAll, deqs]
 | _, _, [], _ :: _, _, _ => by simp only [toPs, PyData.eqvAll, deqs]
 | _, _, _ :: _, [], _, _ => by simp only [toPs, PyData.eqvAll, deqs]
 | n, m, d :: ds, e :: es, h, h' => by
  simp only [DV.plains, Bool.and_eq_true] at h h'
  simp only [toPs, PyData.eqvAll, deqs, q4H n m d e h.1 h'.1, q5z n m ds es h.2 h'.2]
end
mutual
theorem q3z : ∀ (n : Nat) (d : DV), d.plain n = true -> (toP d).canLay0 = true /\ (toP d).depth <= n
 | n, .non, _ => by simp [toP, PyData.canLay0, PyData.depth]
 | n, .bl _, _ => by simp [toP, PyData.canLay0, PyData.depth]
 | n, .int _, _ => by simp [toP, PyData.canLay0, PyData.depth]
 | n, .str x, h => by
  have h' : (x.cps.all (· < 0x110000)) = true := by cases n <;> simpa [DV.plain] using h
  simp only [toP, PyData.canLay0, PyData.depth]
  exact ⟨h', Nat.zero_le _⟩
 | 0, .tup _, h => by simp [DV.plain] at h
 | 0, .lst _, h => by simp [DV.plain] at h
 | n + 1, .tup ds, h => by
  have q := q2d n ds (by simpa [DV.plain] using h)
  simp only [toP, PyData.canLay0, PyData.depth, q.1, true_and]
  have := q.2
  omega
 | n + 1, .lst ds, h => by
  have q := q2d n ds (by simpa [DV.plain] using h)
  simp only [toP, PyData.canLay0, PyData.depth, q.1, true_and]
  have := q.2
  omega
 | n, .dct _ _, h => by cases n <;> simp [DV.plain] at h
 | n, .exc _, h => by cases n <;> simp [DV.plain] at h
 | n, .fn _, h => by cases n <;> simp [DV.plain] at h
 | n, .scr _, h => by cases n <;> simp [DV.plain] at h
theorem q2d : ∀ (n : Nat) (ds : List DV), DV.plains n ds = true -> PyData.canLayAll0 (toPs ds) = true /\ PyData.depthAll (toPs ds) <= n
 | _, [], _ => by simp [toPs, PyData.canLayAll0, PyData.depthAll]
 | n, d :: ds, h => by
  simp only [DV.plains, Bool.and_eq_true] at h
  have q := q3z n d h.1
  have q' := q2d n ds h.2
  simp only [toPs, PyData.canLayAll0, PyData.depthAll, q.1, q'.1, Bool.and_self, true_and]
  have a := q.2
  have b := q'.2
  omega
end
section
variable {X : Cx} {pins : List (Addr × Obj)} {σ : St} {H : Hp} {s : Shared}
mutual
theorem q0V (I : Inv X pins σ H s) : ∀ (n : Nat) {d : DV} {v : V} {u : Value}, d.plain n = true -> Rep X.D H d v -> RelV v u -> ∃ as, Reads s.heap u (toP d) as
 | _, .non, _, _, _, h, r => by rw [q2R.mp h] at r; cases r; exact ⟨_, Reads.none⟩
 | _, .bl b, _, _, _, h, r => by rw [q3M.mp h] at r; cases r; exact ⟨_, Reads.bool b⟩
 | _, .int i, _, _, _, h, r => by rw [q0O.mp h] at r; obtain ⟨t, rfl⟩ := r; exact ⟨_, Reads.int i t⟩
 | _, .str x, _, _, _, h, r => by rw [(q2e.mp h).1] at r; obtain ⟨t, rfl⟩ := r; exact ⟨_, Reads.str x t⟩
 | 0, .tup _, _, _, p, _, _ => by simp [DV.plain] at p
 | 0, .lst _, _, _, p, _, _ => by simp [DV.plain] at p
 | n + 1, .tup ds, _, _, p, h, r => by
  obtain ⟨a, xs, e1, e2, e3⟩ := q0J.mp h
  rw [e1] at r; cases r
  obtain ⟨its, rv, ⟨o, h1, h2, k, h3⟩, _⟩ := I.tuple e2
  obtain ⟨as, q⟩ := q4A I n (by simpa [DV.plain] using p) e3 rv
  rw [toP]
  exact ⟨as, Reads.tuple h1 h2 h3 (by simpa using q)⟩
 | n + 1, .lst ds, _, _, p, h, r => by
  obtain ⟨a, xs, e1, e2, e3⟩ := q0B.mp h
  rw [e1] at r; cases r
  obtain ⟨_, its, k, rv, _, h1⟩ := I.lstM e2
  obtain ⟨as, q⟩ := q4A I n (by simpa [DV.plain] using p) e3 rv
  rw [toP]
  exact ⟨_, Reads.list h1 rfl rfl (by simpa using q)⟩
 | n, .dct _ _, _, _, h, _, _ => by cases n <;> simp [DV.plain] at h
 | n, .exc _, _, _, h, _, _ => by cases n <;> simp [DV.plain] at h
 | n, .fn _, _, _, h, _, _ => by cases n <;> simp [DV.plain] at h
 | n, .scr _, _, _, h, _, _ => by cases n <;> simp [DV.plain] at h
theorem q4A (I : Inv X pins σ H s) : ∀ (n : Nat) {ds : List DV} {vs : List V} {us : List Value}, DV.plains n ds = true -> RepL X.D H ds vs -> Vals vs us -> ∃ as, ReadsAll s.heap us (toPs ds) as
 | _, [], _, _, _, h, r => by rw [q0z.mp h] at r; cases r; exact ⟨_, ReadsAll.nil⟩
 | n, d :: ds, _, _, p, h, r => by
  simp only [DV.plains, Bool.and_eq_true] at p
  obtain ⟨v, vs, e1, e2, e3⟩ := q0k.mp h
  subst e1
  cases r with
  | cons r1 r2 =>
   obtain ⟨as, q⟩ := q0V I n p.1 e2 r1
   obtain ⟨bs, q'⟩ := q4A I n p.2 e3 r2
   rw [toPs]
   exact ⟨_, ReadsAll.cons q q'⟩
end
theorem q3b {d : DV} (h : d.plain 60 = true) : SeqAt.shaped (toP d) = true := by
 have q := q3z 60 d h
 unfold SeqAt.shaped
 rw [q.1, Bool.true_and]
 exact decide_eq_true (Nat.le_trans q.2 (by decide))
theorem q7c {d : DV} (h : d.plain 60 = true) : ∀ (ds : List DV), DV.plains 60 ds = true -> ((toPs ds).any λ y => PyData.eqv y (toP d)) = ds.any λ x => deq x d
 | [], _ => rfl
 | e :: ds, p => by
  simp only [DV.plains, Bool.and_eq_true] at p
  rw [toPs, List.any_cons, List.any_cons, q4H 60 60 e d p.1 h, q7c h ds p.2]
end
section
variable {X : Cx} {E : St -> XK} {δ : List Sv} {a b c e : Expr} {pos : Pos} {ra rb rc : Option Re} {re : Re}
noncomputable def cmpR (X : Cx) (op : CmpOp) : R2 := λ x y H Q => ∃ dx dy k, cmpD op dx dy = some k /\ Rep X.D H dx x /\ Rep X.D H dy y /\ Q (.bl k) H
theorem z4V {D : Dm} {H : Hp} {d : DV} {v : V} (r : Rep D H d v) : decide (v = .non) = isN d := by
 cases d with
 | non => rw [q2R.mp r]; rfl
 | bl _ => rw [q3M.mp r]; rfl
 | int _ => rw [q0O.mp r]; rfl
 | str _ => rw [(q2e.mp r).1]; rfl
 | tup _ => obtain ⟨a, xs, e, _⟩ := q0J.mp r; rw [e]; rfl
 | lst _ => obtain ⟨a, xs, e, _⟩ := q0B.mp r; rw [e]; rfl
 | exc _ => obtain ⟨a, C, e, _⟩ := q7f.mp r; rw [e]; rfl
 | fn _ => obtain ⟨a, e, _⟩ := z4Y.mp r; rw [e]; rfl
 | scr _ => obtain ⟨a, e, _⟩ := q1V.mp r; rw [e]; rfl
 | dct _ _ => obtain ⟨a, kvs, e, _⟩ := q6L.mp r; rw [e]; rfl
theorem z2r {op : CmpOp} (hu : X.A.units + 64 < cLine) : OpR X (compareOp op) (cmpR X op) := by
 intro pins s σ H x y v u Q I rx ry h
 obtain ⟨dx, dy, k, hk, r1, r2, q⟩ := h
 have fin : ∀ {k' : Bool}, k' = k -> EP X pins σ Q (.bool k') s := λ {k'} e => ⟨.bl k', H, I, rfl, by rw [e]; exact q⟩
 unfold cmpD at hk
 split at hk
 ·cases hk; exact z7D pins s σ H x y v u Q I rx ry ⟨_, _, q0O.mp r1, q0O.mp r2, q⟩
 ·cases hk; exact z7w pins s σ H x y v u Q I rx ry ⟨_, _, q0O.mp r1, q0O.mp r2, q⟩
 ·cases hk; exact z7Q pins s σ H x y v u Q I rx ry ⟨_, _, q0O.mp r1, q0O.mp r2, q⟩
 ·split at hk
  ·rename_i p
   rw [Bool.and_eq_true] at p
   cases hk
   obtain ⟨as, q1⟩ := q0V I 60 p.1 r1 rx
   obtain ⟨bs, q2⟩ := q0V I 60 p.2 r2 ry
   exact eq_dataH q1 q2 (q3b p.1) (q3b p.2) hu (fin (q4H 60 60 _ _ p.1 p.2))
  ·cases hk
 ·split at hk
  ·rename_i p
   rw [Bool.and_eq_true] at p
   cases hk
   obtain ⟨as, q1⟩ := q0V I 60 p.1 r1 rx
   obtain ⟨bs, q2⟩ := q0V I 60 p.2 r2 ry
   exact ne_dataH q1 q2 (q3b p.1) (q3b p.2) hu (fin (by rw [q4H 60 60 _ _ p.1 p.2]))
  ·cases hk
 ·cases hk; exact z5a pins s σ H x y v u Q I rx ry ⟨q2R.mp r2, by rw [z4V r1]; exact q⟩
 ·rename_i ds
  split at hk
  ·rename_i p
   rw [Bool.and_eq_true] at p
   cases hk
   obtain ⟨as, q1⟩ := q0V I 60 p.1 r1 rx
   obtain ⟨bs, q2⟩ := q0V I 61 (d := .lst ds) (by simpa [DV.plain] using p.2) r2 ry
   rw [toP] at q2
   have l1 := q3z 60 _ p.1
   have l2 := q2d 60 ds p.2
   have l3 := l1.2
   exact SeqAt.notIn_list_reads q2 q1 l2.1 l1.1 (by omega) (fin (by rw [q7c p.1 ds p.2]))
  ·cases hk
 ·rename_i ds
  split at hk
  ·rename_i p
   rw [Bool.and_eq_true] at p
   cases hk
   obtain ⟨as, q1⟩ := q0V I 60 p.1 r1 rx
   obtain ⟨bs, q2⟩ := q0V I 61 (d := .tup ds) (by simpa [DV.plain] using p.2) r2 ry
   rw [toP] at q2
   have l1 := q3z 60 _ p.1
   have l2 := q2d 60 ds p.2
   have l3 := l1.2
   exact SeqAt.notIn_tuple_reads q2 q1 l2.1 l1.1 (by omega) (fin (by rw [q7c p.1 ds p.2]))
  ·cases hk
 ·cases hk
theorem q6a {op : CmpOp} {b : Expr} (h : q3V b = false) : behindInMarks op b = false := by
 cases b <;> first | rfl | cases h
theorem z4o {op : CmpOp} (hu : X.A.units + 64 < cLine) (ha : ∀ q, ra = some q -> PE X a (dE X.D E δ q)) (hb : ∀ q, rb = some q -> PE X b (dE X.D E δ q)) (hs : q3V b = false)
  (h : (Re.thn ra λ x _ => Re.thn rb λ y _ => (cmpD op x y).map λ k => .ok (.bl k) .strong) = some re) : PE X (.Compare a [op] [b] pos) (dE X.D E δ re) :=
 z0i (λ _ _ h1 h2 => z4j (z2r hu) h1 h2 (q6a hs)) ha hb h λ O W H0 H x y Q dx cx dy cy σ k hd gx gy p => by
  obtain ⟨k', e1, e2⟩ := Option.map_eq_some_iff.mp k
  cases e2
  exact ⟨dx, dy, k', e1, gx.all hd, gy.all hd, p _ H (Same.refl H) q4v⟩
theorem q9c {op : CmpOp} (ha : ∀ q, ra = some q -> PE X a (dE X.D E δ q)) (hb : ∀ q, rb = some q -> PE X b (dE X.D E δ q))
  (h : (Re.thn ra λ x _ => Re.thn rb λ y _ => (cmpD op x y).map λ k => .ok (.bl k) .strong) = some re) : ∃ ta tb, PE X a ta /\ PE X b tb /\ ∀ σ H Q, dE X.D E δ re σ H Q -> tOp (cmpR X op) ta tb σ H Q :=
 q7H ha hb h λ O W H0 H x y Q dx cx dy cy σ k hd gx gy p => by
  obtain ⟨k', e1, e2⟩ := Option.map_eq_some_iff.mp k
  cases e2
  exact ⟨dx, dy, k', e1, gx.all hd, gy.all hd, p _ H (Same.refl H) q4v⟩
theorem z6b {r : Rt} {σ : St} {H : Hp} {Q : Bool -> Hp -> Prop} (hb : ∀ d c, re = .ok d c -> ∃ k, d = .bl k) (h : tstD (some re) = some r) (q : dT X.D E δ r σ H Q) : dE X.D E δ re σ H (λ x H' => ∃ k, x = .bl k /\ Q k H') := by
 obtain ⟨O, W, R, p⟩ := q
 cases re with
 | ex c => cases h; exact ⟨O, W, R, p⟩
 | ok d c =>
  obtain ⟨k, rfl⟩ := hb d c rfl
  cases h
  exact ⟨O, W, R, λ v H' s g => ⟨k, g.bl (R.hid.mono s), p H' s⟩⟩
theorem z5x {op : CmpOp} (h : (Re.thn ra λ x _ => Re.thn rb λ y _ => (cmpD op x y).map λ k => .ok (.bl k) .strong) = some re) : ∀ d c, re = .ok d c -> ∃ k, d = .bl k := by
 intro d c e
 subst e
 cases ra with
 | none => cases h
 | some q =>
  cases q with
  | ex c => cases h
  | ok d c =>
   cases rb with
   | none => cases h
   | some q =>
    cases q with
    | ex c => cases h
    | ok d' c' =>
     obtain ⟨k, _, e⟩ := Option.map_eq_some_iff.mp (show ((cmpD op d d').map λ k => Re.ok (.bl k) .strong) = _ from h)
     cases e
     exact ⟨k, rfl⟩
theorem z1C {op : CmpOp} {r : Rt} (hu : X.A.units + 64 < cLine) (ha : ∀ q, ra = some q -> PE X a (dE X.D E δ q)) (hb : ∀ q, rb = some q -> PE X b (dE X.D E δ q)) (hs : q3V b = false)
  (h : tstD (Re.thn ra λ x _ => Re.thn rb λ y _ => (cmpD op x y).map λ k => .ok (.bl k) .strong) = some r) : PT X (.Compare a [op] [b] pos) (dT X.D E δ r) := by
 cases q : (Re.thn ra λ x _ => Re.thn rb λ y _ => (cmpD op x y).map λ k => Re.ok (.bl k) .strong) with
 | none => rw [q] at h; cases h
 | some re =>
  rw [q] at h
  obtain ⟨ta, tb, A, B, w⟩ := q9c ha hb q
  exact (z3A (z2r hu) A B (q6a hs)).weak λ σ H Q z => w σ H _ (z6b (z5x q) h z)
end
section
variable {X : Cx} {E : St -> XK} {δ : List Sv} {a b c e : Expr} {es : List Expr} {pos : Pos} {ra : Option Re} {rt ru : Option Rt} {r : Rt} {re : Re}
theorem q5d {D : Dm} {H : Hp} {d : DV} {v : V} {k : Bool} (h : q2z d = some k) (r : Rep D H d v) : TruV D.K v H k := by
 cases d with
 | non => cases h; rw [q2R.mp r]; rfl
 | bl b => cases h; rw [q3M.mp r]; rfl
 | int i => cases h; rw [q0O.mp r]; rfl
 | str x =>
  cases h
  obtain ⟨e1, e2⟩ := q2e.mp r
  rw [e1]
  refine ⟨e2, ?_⟩
  show (x.cps.size != 0) = (((x.cps.size : Nat) : Int) != 0)
  cases x.cps.size with
  | zero => rfl
  | succ n => simp only [bne, Nat.add_eq_zero_iff]; rw [Bool.eq_iff_iff]; simp; omega
 | tup ds =>
  cases h
  obtain ⟨a, xs, e1, e2, e3⟩ := q0J.mp r
  rw [e1]
  refine .inr (.inl ⟨xs, e2, ?_⟩)
  have := e3.length
  cases xs <;> cases ds <;> first | rfl | cases this
 | lst ds =>
  cases h
  obtain ⟨a, xs, e1, e2, e3⟩ := q0B.mp r
  rw [e1]
  refine .inl ⟨xs, SqL.of e2, ?_⟩
  have := e3.length
  cases xs <;> cases ds <;> first | rfl | cases this
 | dct _ _ => cases h
 | exc _ => cases h
 | fn _ => cases h
 | scr _ => cases h
theorem q9w (ha : ∀ q, ra = some q -> PE X e (dE X.D E δ q)) (he : ∀ whole, isTrue e X.env whole = (do let v <- whole; standAt e.pos; holding [v] (truthy v))) (h : tstD ra = some r) : PT X e (dT X.D E δ r) := by
 cases hra : ra with
 | none => rw [hra] at h; cases h
 | some q =>
  rw [hra] at h
  have A := ha q hra
  cases q with
  | ex c => cases h; exact (q7w A he).weak λ σ H Q ⟨O, W, R, p⟩ => ⟨O, W, R, p⟩
  | ok d cl =>
   obtain ⟨k, e1, e2⟩ := Option.map_eq_some_iff.mp (show (q2z d).map Rt.ok = some r from h)
   cases e2
   exact (q7w A he).weak λ σ H Q ⟨O, W, R, p⟩ => ⟨O, W, R, λ x H1 s1 g1 => ⟨k, q5d e1 (g1.all (R.hid.mono s1)), p H1 s1⟩⟩
theorem z2Z {ta : TE} (ha : PE X a ta) : PE X (.UnaryOp .Not a pos) (tUn (λ x H Q => ∃ k, TruV X.K x H k /\ Q (.bl (!k)) H) ta) := by
 intro pins s σ H Q I h
 refine UnaryOp_ (thn (ha pins s σ H _ I h) λ v s1 ⟨x, H1, I1, r1, q1⟩ => ?_)
 obtain ⟨k, t, q1⟩ := q1
 exact not_of (thn (q7O pins s1 σ H1 x v (λ b H' => b = k /\ H' = H1) I1 r1 ⟨k, t, rfl, rfl⟩) λ b s2 ⟨H2, I2, e1, e2⟩ => by
  subst e1 e2
  exact ⟨.bl (!b), H2, I2, rfl, q1⟩)
theorem z4P (ha : ∀ q, ra = some q -> PE X a (dE X.D E δ q)) (h : (Re.thn ra λ x _ => (q2z x).map λ k => .ok (.bl (!k)) .strong) = some re) : PE X (.UnaryOp .Not a pos) (dE X.D E δ re) :=
 z5n (λ _ => z2Z) ha h λ O W H0 H x Q dx cx σ k hd gx p => by
  obtain ⟨b, e1, e2⟩ := Option.map_eq_some_iff.mp k
  cases e2
  exact ⟨b, q5d e1 (gx.all hd), p _ H (Same.refl H) q4v⟩
theorem q6N {ta tb : TE} (ha : PE X a ta) (hb : PE X (.BoolOp .And (b :: es) pos) tb) : PE X (.BoolOp .And (a :: b :: es) pos) (λ σ H Q => ta σ H λ x H1 => ∃ k, TruV X.K x H1 k /\ if k = true then tb σ H1 Q else Q x H1) := by
 intro pins s σ H Q I h
 refine BoolOp_and (thn (ha pins s σ H _ I h) λ v s1 ⟨x, H1, I1, r1, q1⟩ => ?_)
 obtain ⟨k, t, q1⟩ := q1
 refine thn (q7O pins s1 σ H1 x v (λ b H' => b = k /\ H' = H1) I1 r1 ⟨k, t, rfl, rfl⟩) λ c s2 ⟨H2, I2, e1, e2⟩ => ?_
 subst e1 e2
 cases c with
 | true => exact hb pins s2 σ H2 Q I2 q1
 | false => exact ⟨x, H2, I2, r1, q1⟩
theorem z0d {ta tb : TE} (ha : PE X a ta) (hb : PE X (.BoolOp .Or (b :: es) pos) tb) : PE X (.BoolOp .Or (a :: b :: es) pos) (λ σ H Q => ta σ H λ x H1 => ∃ k, TruV X.K x H1 k /\ if k = true then Q x H1 else tb σ H1 Q) := by
 intro pins s σ H Q I h
 refine BoolOp_or (thn (ha pins s σ H _ I h) λ v s1 ⟨x, H1, I1, r1, q1⟩ => ?_)
 obtain ⟨k, t, q1⟩ := q1
 refine thn (q7O pins s1 σ H1 x v (λ b H' => b = k /\ H' = H1) I1 r1 ⟨k, t, rfl, rfl⟩) λ c s2 ⟨H2, I2, e1, e2⟩ => ?_
 subst e1 e2
 cases c with
 | false => exact hb pins s2 σ H2 Q I2 q1
 | true => exact ⟨x, H2, I2, r1, q1⟩
theorem z3H {rb : Option Re} (ha : ∀ q, ra = some q -> PE X a (dE X.D E δ q)) (hb : ∀ q, rb = some q -> PE X (.BoolOp .And (b :: es) pos) (dE X.D E δ q)) (h : (Re.thn ra λ x c => andD x c rb) = some re) : PE X (.BoolOp .And (a :: b :: es) pos) (dE X.D E δ re) := by
 cases hra : ra with
 | none => rw [hra] at h; cases h
 | some q =>
  rw [hra] at h
  have A := ha q hra
  cases q with
  | ex c => cases h; exact (q6N A q1I).weak λ σ H Q ⟨O, W, R, p⟩ => ⟨O, W, R, p⟩
  | ok d cl =>
   have h' : andD d cl rb = some re := h
   unfold andD at h'
   split at h'
   ·cases h'
   ·rename_i t
    exact (q6N A (hb re h')).weak λ σ H Q ⟨O, W, R, p⟩ => ⟨O, W, R, λ x H1 s1 g1 => ⟨true, q5d t (g1.all (R.hid.mono s1)), iteT ⟨O, W, R.mono s1, p.later s1 s1⟩⟩⟩
   ·rename_i t
    cases h'
    exact (q6N A q1I).weak λ σ H Q ⟨O, W, R, p⟩ => ⟨O, W, R, λ x H1 s1 g1 => ⟨false, q5d t (g1.all (R.hid.mono s1)), iteF (p _ H1 s1 g1)⟩⟩
theorem z6j {rb : Option Re} (ha : ∀ q, ra = some q -> PE X a (dE X.D E δ q)) (hb : ∀ q, rb = some q -> PE X (.BoolOp .Or (b :: es) pos) (dE X.D E δ q)) (h : (Re.thn ra λ x c => orD x c rb) = some re) : PE X (.BoolOp .Or (a :: b :: es) pos) (dE X.D E δ re) := by
 cases hra : ra with
 | none => rw [hra] at h; cases h
 | some q =>
  rw [hra] at h
  have A := ha q hra
  cases q with
  | ex c => cases h; exact (z0d A q1I).weak λ σ H Q ⟨O, W, R, p⟩ => ⟨O, W, R, p⟩
  | ok d cl =>
   have h' : orD d cl rb = some re := h
   unfold orD at h'
   split at h'
   ·cases h'
   ·rename_i t
    cases h'
    exact (z0d A q1I).weak λ σ H Q ⟨O, W, R, p⟩ => ⟨O, W, R, λ x H1 s1 g1 => ⟨true, q5d t (g1.all (R.hid.mono s1)), iteT (p _ H1 s1 g1)⟩⟩
   ·rename_i t
    exact (z0d A (hb re h')).weak λ σ H Q ⟨O, W, R, p⟩ => ⟨O, W, R, λ x H1 s1 g1 => ⟨false, q5d t (g1.all (R.hid.mono s1)), iteF ⟨O, W, R.mono s1, p.later s1 s1⟩⟩⟩
theorem q6X {k : DV -> Cl -> Option Re} (h : tstD (Re.thn ra k) = some r) : (ra = none /\ False) \/ (∃ c, ra = some (.ex c) /\ r = .ex c) \/ ∃ d c, ra = some (.ok d c) /\ tstD (k d c) = some r := by
 cases hra : ra with
 | none => rw [hra] at h; cases h
 | some q =>
  rw [hra] at h
  cases q with
  | ex c => cases h; exact .inr (.inl ⟨c, rfl, rfl⟩)
  | ok d c => exact .inr (.inr ⟨d, c, rfl, h⟩)
theorem z2H {d : DV} {c : Cl} {r : Rt} (h : tstD (some (.ok d c)) = some r) : ∃ k, q2z d = some k /\ r = .ok k := by
 obtain ⟨k, e1, e2⟩ := Option.map_eq_some_iff.mp (show (q2z d).map Rt.ok = some r from h)
 exact ⟨k, e1, e2.symm⟩
theorem z1W (ha : ∀ q, tstD ra = some q -> PT X a (dT X.D E δ q)) (h : tstD (Re.thn ra λ x _ => (q2z x).map λ k => .ok (.bl (!k)) .strong) = some r) : PT X (.UnaryOp .Not a pos) (dT X.D E δ r) := by
 rcases q6X h with ⟨_, z⟩ | ⟨c, e1, e2⟩ | ⟨d, c, e1, e2⟩
 ·exact z.elim
 ·subst e1 e2
  exact (z2k (ha (.ex c) rfl)).weak λ σ H Q ⟨O, W, R, p⟩ => ⟨O, W, R, p⟩
 ·cases t : q2z d with
  | none => rw [t] at e2; cases e2
  | some k =>
   rw [t] at e2
   cases e2
   have A := ha (.ok k) (by rw [e1]; show (q2z d).map Rt.ok = _; rw [t]; rfl)
   exact (z2k A).weak λ σ H Q ⟨O, W, R, p⟩ => ⟨O, W, R, λ H1 s1 => p H1 s1⟩
theorem z1h {rb : Option Re} (ha : ∀ q, tstD ra = some q -> PT X a (dT X.D E δ q)) (hb : ∀ q, tstD rb = some q -> PW X (.BoolOp .And (b :: es) pos) (dT X.D E δ q)) (h : tstD (Re.thn ra λ x c => andD x c rb) = some r) : PW X (.BoolOp .And (a :: b :: es) pos) (dT X.D E δ r) := by
 rcases q6X h with ⟨_, z⟩ | ⟨c, e1, e2⟩ | ⟨d, c, e1, e2⟩
 ·exact z.elim
 ·subst e1 e2
  exact (z0y (ha (.ex c) rfl) q5P).weak λ σ H Q ⟨O, W, R, p⟩ => ⟨O, W, R, p⟩
 ·unfold andD at e2
  cases t : q2z d with
  | none => rw [t] at e2; cases e2
  | some k =>
   rw [t] at e2
   have A := ha (.ok k) (by rw [e1]; show (q2z d).map Rt.ok = _; rw [t]; rfl)
   cases k with
   | true => exact (z0y A (hb r e2)).weak λ σ H Q ⟨O, W, R, p⟩ => ⟨O, W, R, λ H1 s1 => iteT ⟨O, W, R.mono s1, p.later s1⟩⟩
   | false =>
    obtain ⟨k, t', rfl⟩ := z2H e2
    rw [t] at t'; cases t'
    exact (z0y A q5P).weak λ σ H Q ⟨O, W, R, p⟩ => ⟨O, W, R, λ H1 s1 => iteF (p H1 s1)⟩
theorem z3a {rb : Option Re} (ha : ∀ q, tstD ra = some q -> PT X a (dT X.D E δ q)) (hb : ∀ q, tstD rb = some q -> PW X (.BoolOp .Or (b :: es) pos) (dT X.D E δ q)) (h : tstD (Re.thn ra λ x c => orD x c rb) = some r) : PW X (.BoolOp .Or (a :: b :: es) pos) (dT X.D E δ r) := by
 rcases q6X h with ⟨_, z⟩ | ⟨c, e1, e2⟩ | ⟨d, c, e1, e2⟩
 ·exact z.elim
 ·subst e1 e2
  exact (z3q (ha (.ex c) rfl) q5P).weak λ σ H Q ⟨O, W, R, p⟩ => ⟨O, W, R, p⟩
 ·unfold orD at e2
  cases t : q2z d with
  | none => rw [t] at e2; cases e2
  | some k =>
   rw [t] at e2
   have A := ha (.ok k) (by rw [e1]; show (q2z d).map Rt.ok = _; rw [t]; rfl)
   cases k with
   | false => exact (z3q A (hb r e2)).weak λ σ H Q ⟨O, W, R, p⟩ => ⟨O, W, R, λ H1 s1 => iteF ⟨O, W, R.mono s1, p.later s1⟩⟩
   | true =>
    obtain ⟨k, t', rfl⟩ := z2H e2
    rw [t] at t'; cases t'
    exact (z3q A q5P).weak λ σ H Q ⟨O, W, R, p⟩ => ⟨O, W, R, λ H1 s1 => iteT (p H1 s1)⟩
theorem q5e {tc t u : TT} (hc : PT X c tc) (ha : PT X a t) (hb : PT X b u) : PT X (.IfExp c a b pos) (λ σ H Q => tc σ H λ k H1 => if k = true then t σ H1 Q else u σ H1 Q) := by
 intro pins s σ H Q I h
 refine isTrue_IfExp (thn (hc pins s σ H _ I h) λ k s1 ⟨H1, I1, q1⟩ => ?_)
 cases k with
 | true => exact ha pins s1 σ H1 Q I1 q1
 | false => exact hb pins s1 σ H1 Q I1 q1
theorem z1N {rb : Option Re} (hc : ∀ q, rt = some q -> PT X c (dT X.D E δ q)) (ha : ∀ q, tstD ra = some q -> PT X a (dT X.D E δ q)) (hb : ∀ q, tstD rb = some q -> PT X b (dT X.D E δ q)) (h : tstD (Rt.thn rt λ k => if k then ra else rb) = some r) : PT X (.IfExp c a b pos) (dT X.D E δ r) := by
 cases hrt : rt with
 | none => rw [hrt] at h; cases h
 | some q =>
  rw [hrt] at h
  have C := hc q hrt
  cases q with
  | ex c => cases h; exact (q5e C q5j q5j).weak λ σ H Q ⟨O, W, R, p⟩ => ⟨O, W, R, p⟩
  | ok k =>
   cases k with
   | true => exact (q5e C (ha r h) q5j).weak λ σ H Q ⟨O, W, R, p⟩ => ⟨O, W, R, λ H1 s1 => iteT ⟨O, W, R.mono s1, p.later s1⟩⟩
   | false => exact (q5e C q5j (hb r h)).weak λ σ H Q ⟨O, W, R, p⟩ => ⟨O, W, R, λ H1 s1 => iteF ⟨O, W, R.mono s1, p.later s1⟩⟩
theorem z3o {rb rc : Option Re} (hc : ∀ q, rt = some q -> PT X c (dT X.D E δ q)) (ha : ∀ q, rb = some q -> PE X a (dE X.D E δ q)) (hb : ∀ q, rc = some q -> PE X b (dE X.D E δ q))
  (h : (Rt.thn rt λ k => if k then rb else rc) = some re) : PE X (.IfExp c a b pos) (dE X.D E δ re) := by
 cases hrt : rt with
 | none => rw [hrt] at h; cases h
 | some q =>
  rw [hrt] at h
  have C := hc q hrt
  cases q with
  | ex c => cases h; exact (q5I C q1I q1I).weak λ σ H Q ⟨O, W, R, p⟩ => ⟨O, W, R, p⟩
  | ok k =>
   cases k with
   | true =>
    have h' : rb = some re := h
    exact (q5I C (ha re h') q1I).weak λ σ H Q ⟨O, W, R, p⟩ => ⟨O, W, R, λ H1 s1 => iteT ⟨O, W, R.mono s1, p.later s1 s1⟩⟩
   | false =>
    have h' : rc = some re := h
    exact (q5I C q1I (hb re h')).weak λ σ H Q ⟨O, W, R, p⟩ => ⟨O, W, R, λ H1 s1 => iteF ⟨O, W, R.mono s1, p.later s1 s1⟩⟩
theorem q0p {e : Expr} {es : List Expr} {env : Env} (h : q0y e = false) : starEach (e :: es) env = (false, eval e env) :: starEach es env := by
 cases e <;> first | rfl | cases h
theorem z1v : PA X [] (dA X.D E δ (.ok [])) := q3j.weak λ σ H Q ⟨O, W, R, p⟩ => p [] H (Same.refl H) .nil
theorem z0N {rs : Option Rs} {q : Rs} (hs : q0y e = false) (ha : ∀ q, ra = some q -> PE X e (dE X.D E δ q)) (hb : ∀ q, rs = some q -> PA X es (dA X.D E δ q))
  (h : (match (generalizing := false) ra with | none => none | some (.ex c) => some (Rs.ex c) | some (.ok d c) => (match (generalizing := false) rs with | none => none | some (.ex c) => some (.ex c) | some (.ok l) => some (.ok ((d, c) :: l)))) = some q) : PA X (e :: es) (dA X.D E δ q) := by
 cases hra : ra with
 | none => rw [hra] at h; cases h
 | some z =>
  rw [hra] at h
  have A := ha z hra
  cases z with
  | ex c => cases h; exact (q0Z A z3i (q0p hs)).weak λ σ H Q ⟨O, W, R, p⟩ => ⟨O, W, R, p⟩
  | ok d cl =>
   cases hrs : rs with
   | none => rw [hrs] at h; cases h
   | some y =>
    rw [hrs] at h
    have B := hb y hrs
    cases y with
    | ex c => cases h; exact (q0Z A B (q0p hs)).weak λ σ H Q ⟨O, W, R, p⟩ => ⟨O, W, R, λ x H1 s1 g1 => ⟨O, W, R.mono s1, λ H' C m s => p H' C m (s1.trans s)⟩⟩
    | ok l =>
     cases h
     exact (q0Z A B (q0p hs)).weak λ σ H Q ⟨O, W, R, p⟩ => ⟨O, W, R, λ x H1 s1 g1 => ⟨O, W, R.mono s1, λ vs H2 s2 g2 => p _ H2 (s1.trans s2) (.cons (g1.mono s2) (g2.since s1))⟩⟩
theorem z2K {rs : Option Rs} (ha : ∀ q, rs = some q -> PA X es (dA X.D E δ q)) (h : (Rs.thn rs λ l => if l.length <= mostLen then some (.ok (.lst (l.map (·.1))) (if stros l then .fresh else .weak)) else none) = some re) : PE X (.List es pos) (dE X.D E δ re) :=
 q3n (r := λ vs H Q => vs.length <= sizeLine /\ ∀ p, H p = none -> Q (.ref p) (upd H p (.lst vs))) (λ _ => z6z) ha h λ O W H0 H vs Q l σ k hd g p => by
  split at k
  ·rename_i m
   cases k
   refine ⟨by rw [g.length]; exact q2c m, λ q hq => p _ _ (q0u hq) ?_⟩
   by_cases z : stros l = true
   ·rw [if_pos z]; exact q1W hd hq (g.stros hd z)
   ·rw [if_neg z]; exact q5J hd hq (g.repL hd)
  ·cases k
theorem z4k {rs : Option Rs} {x1 : Nat} (ha : ∀ q, rs = some q -> PA X es (dA X.D E δ q)) (h : (Rs.thn rs λ l => if l.length <= mostLen then some (.ok (.tup (l.map (·.1))) (if stros l then .strong else .weak)) else none) = some re) : PE X (.Tuple es x1 pos) (dE X.D E δ re) :=
 q3n (r := λ vs H Q => vs.length <= sizeLine /\ ∀ p, H p = none -> Q (.ref p) (upd H p (.tup vs))) (λ _ => z2D) ha h λ O W H0 H vs Q l σ k hd g p => by
  split at k
  ·rename_i m
   cases k
   refine ⟨by rw [g.length]; exact q2c m, λ q hq => p _ _ (q0u hq) ?_⟩
   by_cases z : stros l = true
   ·rw [if_pos z]; exact q4w hd hq (g.stros hd z)
   ·rw [if_neg z]; exact q7X hd hq (g.repL hd)
  ·cases k
end
end L2
end
section
namespace L2
open PySem PySem.Spec PyProof.Rows
theorem q5L : ∀ ds : List DV, toPs ds = ds.map toP
 | [] => by rw [toPs]; rfl
 | d :: r => by rw [toPs, q5L r]; rfl
theorem q6V {y : DV} : ∀ {ds : List DV} {j : Nat}, q3T y ds = some j -> ∃ h : j < ds.length, deq ds[j] y = true /\ ∀ m (hm : m < ds.length), m < j -> deq ds[m] y = false
 | [], j, h => by cases h
 | d :: r, j, h => by
  unfold q3T at h
  split at h
  ·rename_i e
   cases h
   exact ⟨Nat.succ_pos _, e, λ m _ hm => absurd hm (Nat.not_lt_zero _)⟩
  ·rename_i e
   obtain ⟨k, h1, rfl⟩ := Option.map_eq_some_iff.mp h
   obtain ⟨hk, h2, h3⟩ := q6V h1
   refine ⟨Nat.succ_lt_succ hk, h2, λ m hm hlt => ?_⟩
   cases m with
   | zero => exact Bool.eq_false_iff.mpr e
   | succ m => exact h3 m (Nat.lt_of_succ_lt_succ hm) (Nat.lt_of_succ_lt_succ hlt)
theorem q6h {n : Nat} : ∀ {ds : List DV} {m : Nat} (h : m < ds.length), DV.plains n ds = true -> (ds[m]).plain n = true
 | d :: r, 0, _, p => by simp only [DV.plains, Bool.and_eq_true] at p; exact p.1
 | d :: r, m + 1, h, p => by simp only [DV.plains, Bool.and_eq_true] at p; exact q6h (ds := r) (Nat.lt_of_succ_lt_succ h) p.2
section
variable {X : Cx} {pins : List (Addr × Obj)} {σ : St} {H : Hp} {s : Shared} {E : St -> XK} {δ : List Sv} {o e : Expr} {to te : TE} {apos cpos : Pos} {ra rb : Option Re} {re : Re}
theorem q7E {y : DV} {ds : List DV} {j : Nat} (p : y.plain 60 = true) (q : DV.plains 60 ds = true) (h : q3T y ds = some j) :
  ∃ h : j < (toPs ds).length, PyData.eqv (toPs ds)[j] (toP y) = true /\ ∀ m (hm : m < (toPs ds).length), m < j -> PyData.eqv (toPs ds)[m] (toP y) = false := by
 obtain ⟨hj, h1, h2⟩ := q6V h
 have hl : (toPs ds).length = ds.length := by rw [q5L, List.length_map]
 have ha : ∀ m (h1 : m < (toPs ds).length) (h2 : m < ds.length), PyData.eqv (toPs ds)[m] (toP y) = deq ds[m] y := λ m h1 h2 => by
  rw [<- q4H 60 60 ds[m] y (q6h h2 q) p]
  congr 1
  simp only [q5L, List.getElem_map]
 exact ⟨by omega, (ha j (by omega) hj).trans h1, λ m hm hlt => (ha m hm (by omega)).trans (h2 m (by omega) hlt)⟩
theorem z4y {x y : V} {v u : Value} {ds : List DV} {dy : DV} {j : Nat} {Q : VK} (hu : X.A.units + 64 < cLine) (I : Inv X pins σ H s) (rx : RelV x v) (ry : RelV y u) (r1 : Rep X.D H (.lst ds) x) (r2 : Rep X.D H dy y) (p : dy.plain 60 = true) (q : DV.plains 60 ds = true) (hl : ds.length <= mostLen)
  (h : q3T dy ds = some j) (k : Q (.int j) H) : wpAny (model X.prog X.w) X.A (call (.builtin "list.index") [v, u]) (EP X pins σ Q) X.xe s := by
 obtain ⟨as, q1⟩ := q0V I 60 p r2 ry
 obtain ⟨bs, q2⟩ := q0V I 61 (d := .lst ds) (by simpa [DV.plain] using q) r1 rx
 rw [toP] at q2
 have l1 := q3z 60 _ p
 have l2 := q2d 60 ds q
 have l3 := l1.2
 obtain ⟨hj, f1, f2⟩ := q7E p q h
 have hj2 := (q6V h).1
 exact SeqAt.index_list_reads q2 q1 l2.1 l1.1 (by omega) hj (by have : mostLen = 1000000 := rfl; omega) f1 f2 ⟨.int j, H, I.tok _, ⟨_, rfl⟩, k⟩
theorem z4b {x y : V} {v u : Value} {ds : List DV} {dy : DV} {j : Nat} {Q : VK} (hu : X.A.units + 64 < cLine) (I : Inv X pins σ H s) (rx : RelV x v) (ry : RelV y u) (r1 : Rep X.D H (.tup ds) x) (r2 : Rep X.D H dy y) (p : dy.plain 60 = true) (q : DV.plains 60 ds = true)
  (h : q3T dy ds = some j) (k : Q (.int j) H) : wpAny (model X.prog X.w) X.A (call (.builtin "tuple.index") [v, u]) (EP X pins σ Q) X.xe s := by
 obtain ⟨as, q1⟩ := q0V I 60 p r2 ry
 obtain ⟨bs, q2⟩ := q0V I 61 (d := .tup ds) (by simpa [DV.plain] using q) r1 rx
 rw [toP] at q2
 have l1 := q3z 60 _ p
 have l2 := q2d 60 ds q
 have l3 := l1.2
 obtain ⟨hj, f1, f2⟩ := q7E p q h
 exact SeqAt.index_tuple_reads q2 q1 l2.1 l1.1 (by omega) hj f1 f2 ⟨.int j, H, I.tok _, ⟨_, rfl⟩, k⟩
noncomputable def tIdx (X : Cx) (to te : TE) : TE := λ σ H Q => to σ H λ x H1 => (∃ ds, Rep X.D H1 (.lst ds) x /\ te σ H1 λ y H2 => ∃ ds dy j, Rep X.D H2 (.lst ds) x /\ Rep X.D H2 dy y /\ dy.plain 60 = true /\ DV.plains 60 ds = true /\ ds.length <= mostLen /\ q3T dy ds = some j /\ Q (.int j) H2) \/
 (∃ ds, Rep X.D H1 (.tup ds) x /\ te σ H1 λ y H2 => ∃ ds dy j, Rep X.D H2 (.tup ds) x /\ Rep X.D H2 dy y /\ dy.plain 60 = true /\ DV.plains 60 ds = true /\ q3T dy ds = some j /\ Q (.int j) H2)
theorem z2p (hu : X.A.units + 64 < cLine) (ho : PE X o to) (ha : PE X e te) (hbase : attributeBase o "index" X.env (eval o X.env) = eval o X.env) (hline : (apos.endLine == cpos.line) = true) (hs : starEach [e] X.env = [(false, eval e X.env)]) :
  PE X (.Call (.Attribute o "index" apos) [e] [] cpos) (tIdx X to te) := by
 intro pins s σ H Q I h
 refine wpAny_Call_method_late hbase (by rw [hs]; rfl) hline rfl (thn (ho pins s σ H _ I h) λ v s1 ⟨x, H1, I1, r1, q1⟩ => ?_)
 rcases q1 with ⟨ds, d1, q1⟩ | ⟨ds, d1, q1⟩
 ·obtain ⟨a, xs, e1, e2, e3⟩ := q0B.mp d1
  subst e1
  cases (show v = Value.ref a from r1)
  obtain ⟨its, _, pl, _⟩ := I1.list (SqL.of e2)
  refine ⟨"list", "list.index", PySem.F.plainAttrs_list, PySem.F.slot_list_index, PySem.F.type_list_index, pl.isList.typeIs, λ b eb => ?_, ?_⟩
  ·cases eb
   obtain ⟨o, n, e, c, hd, _⟩ := pl
   exact ⟨o, e, hd⟩
  ·rw [hs]
   refine Calls.callWith_builtin rfl (Calls.evalArgs_plain (Calls.spliced_cons (thn (ha pins s1 σ H1 _ I1 q1) λ u s2 ⟨y, H2, I2, r2, ds', dy, j, d2, d3, p1, p2, p3, p4, k⟩ => Calls.spliced_nil ?_)))
   exact z4y hu I2 (show RelV (.ref a) (Value.ref a) from rfl) r2 d2 d3 p1 p2 p3 p4 k
 ·obtain ⟨a, xs, e1, e2, e3⟩ := q0J.mp d1
  subst e1
  cases (show v = Value.ref a from r1)
  obtain ⟨ob, n1, n2, n3⟩ := I1.tupleN e2
  refine ⟨"tuple", "tuple.index", PySem.F.plainAttrs_tuple, PySem.F.slot_tuple_index, PySem.F.type_tuple_index, ⟨ob, n1, n2⟩, λ b eb => ?_, ?_⟩
  ·cases eb
   exact ⟨ob, n1, n3⟩
  ·rw [hs]
   refine Calls.callWith_builtin rfl (Calls.evalArgs_plain (Calls.spliced_cons (thn (ha pins s1 σ H1 _ I1 q1) λ u s2 ⟨y, H2, I2, r2, ds', dy, j, d2, d3, p1, p2, p3, k⟩ => Calls.spliced_nil ?_)))
   exact z4b hu I2 (show RelV (.ref a) (Value.ref a) from rfl) r2 d2 d3 p1 p2 p3 k
theorem z3X (hu : X.A.units + 64 < cLine) (ha : ∀ q, ra = some q -> PE X o (dE X.D E δ q)) (hb : ∀ q, rb = some q -> PE X e (dE X.D E δ q)) (hbase : attributeBase o "index" X.env (eval o X.env) = eval o X.env) (hline : (apos.endLine == cpos.line) = true) (hs : starEach [e] X.env = [(false, eval e X.env)])
  (h : (Re.thn ra λ x _ => if seqB x then Re.thn rb λ y _ => (idxD x y).map λ d => .ok d .strong else none) = some re) : PE X (.Call (.Attribute o "index" apos) [e] [] cpos) (dE X.D E δ re) := by
 cases hra : ra with
 | none => rw [hra] at h; cases h
 | some q =>
  rw [hra] at h
  have A := ha q hra
  cases q with
  | ex c =>
   cases h
   exact (z2p hu A q1I hbase hline hs).weak λ σ H Q ⟨O, W, R, p⟩ => ⟨O, W, R, p⟩
  | ok dx cx =>
   have h0 : (if seqB dx then Re.thn rb λ y _ => (idxD dx y).map λ d => Re.ok d .strong else none) = some re := h
   have hsq : seqB dx = true := by
    cases z : seqB dx with
    | true => rfl
    | false => rw [z] at h0; cases h0
   rw [if_pos hsq] at h0
   have h' : (Re.thn rb λ y _ => (idxD dx y).map λ d => .ok d .strong) = some re := h0
   cases hrb : rb with
   | none => rw [hrb] at h'; cases h'
   | some q =>
    rw [hrb] at h'
    have B := hb q hrb
    have C := z2p hu A B hbase hline hs (apos := apos) (cpos := cpos)
    cases q with
    | ex c =>
     cases h'
     cases dx with
     | lst ds => exact C.weak λ σ H Q ⟨O, W, R, p⟩ => ⟨O, W, R, λ x H1 s1 g1 => .inl ⟨ds, g1.all (R.hid.mono s1), O, W, R.mono s1, λ H' C m s => p H' C m (s1.trans s)⟩⟩
     | tup ds => exact C.weak λ σ H Q ⟨O, W, R, p⟩ => ⟨O, W, R, λ x H1 s1 g1 => .inr ⟨ds, g1.all (R.hid.mono s1), O, W, R.mono s1, λ H' C m s => p H' C m (s1.trans s)⟩⟩
     | _ => cases hsq
    | ok dy cy =>
     have h2 : ((idxD dx dy).map λ d => Re.ok d .strong) = some re := h'
     obtain ⟨d, h3, h4⟩ := Option.map_eq_some_iff.mp h2
     subst h4
     unfold idxD at h3
     split at h3
     ·rename_i ds
      split at h3
      ·rename_i m
       obtain ⟨j, f1, rfl⟩ := Option.map_eq_some_iff.mp h3
       rw [Bool.and_eq_true, Bool.and_eq_true, decide_eq_true_eq] at m
       exact C.weak λ σ H Q ⟨O, W, R, p⟩ => ⟨O, W, R, λ x H1 s1 g1 => .inl ⟨ds, g1.all (R.hid.mono s1), O, W, R.mono s1, λ y H2 s2 g2 =>
        ⟨ds, dy, j, (g1.mono s2).all ((R.hid.mono s1).mono s2), (g2.since s1).all ((R.hid.mono s1).mono s2), m.1.1, m.1.2, m.2, f1, p _ H2 (s1.trans s2) q0I⟩⟩⟩
      ·cases h3
     ·rename_i ds
      split at h3
      ·rename_i m
       obtain ⟨j, f1, rfl⟩ := Option.map_eq_some_iff.mp h3
       rw [Bool.and_eq_true, Bool.and_eq_true, decide_eq_true_eq] at m
       exact C.weak λ σ H Q ⟨O, W, R, p⟩ => ⟨O, W, R, λ x H1 s1 g1 => .inr ⟨ds, g1.all (R.hid.mono s1), O, W, R.mono s1, λ y H2 s2 g2 =>
        ⟨ds, dy, j, (g1.mono s2).all ((R.hid.mono s1).mono s2), (g2.since s1).all ((R.hid.mono s1).mono s2), m.1.1, m.1.2, f1, p _ H2 (s1.trans s2) q0I⟩⟩⟩
      ·cases h3
     ·cases h3
end
end L2
end
section
namespace L2
open PySem PySem.Spec PyProof.Rows
noncomputable def GotR (D : Dm) (O : List Addr) (H0 H : Hp) (d : DV) (fr : Bool) (v : V) : Prop := match fr with
 | false => Rep D (L2.wo O H) d v
 | true => ∃ p xs ds, v = .ref p /\ d = .lst ds /\ H0 p = none /\ H p = some (.lst xs) /\ RepL D (L2.wo (p :: O) H) ds xs
noncomputable def GotF (H H' : Hp) (xs : List DV) (v : V) : Prop := ∃ (p : Addr) (L : List (Addr × List Int)), v = .ref p /\ xs = L.map (λ q => .lst (q.2.map DV.int)) /\ H p = none /\ H' p = some (.lst (L.map λ q => .ref q.1)) /\ (∀ q ∈ L, H q.1 = none /\ H' q.1 = some (.lst (q.2.map V.int))) /\ (p :: L.map (·.1)).Nodup
theorem GotF.since {H0 H1 H : Hp} {xs : List DV} {v : V} (g : GotF H1 H xs v) (f : ∀ a, H1 a = none -> H0 a = none) : GotF H0 H xs v := by
 obtain ⟨p, L, e1, e2, e3, e4, e5, e6⟩ := g
 exact ⟨p, L, e1, e2, f _ e3, e4, λ q hq => ⟨f _ (e5 q hq).1, (e5 q hq).2⟩, e6⟩
theorem GotF.items {D : Dm} {H0 H : Hp} {xs : List DV} {v : V} {Z : List Addr} (g : GotF H0 H xs v) (hz : ∀ a ∈ Z, H0 a ≠ none) : ∃ p vs, v = .ref p /\ H0 p = none /\ H p = some (.lst vs) /\ RepL D (L2.wo (p :: Z) H) xs vs := by
 obtain ⟨p, L, e1, e2, e3, e4, e5, e6⟩ := g
 refine ⟨p, _, e1, e3, e4, ?_⟩
 rw [e2]
 refine q7n λ q hq => ?_
 rw [q0A λ z => ?_]
 ·exact (e5 q hq).2
 ·rcases List.mem_cons.mp z with z | z
  ·exact (List.nodup_cons.mp e6).1 (List.mem_map.mpr ⟨q, hq, z⟩)
  ·exact hz _ z (e5 q hq).1
theorem GotF.fresh {D : Dm} {O W : List Addr} {H0 H1 H : Hp} {xs : List DV} {v : V} (g : GotF H0 H xs v) (hd : Hid O W H0 H1) : Got D O W H0 H (.lst xs) .fresh v := by
 obtain ⟨p, vs, e1, e2, e3, e4⟩ := g.items (D := D) (Z := O ++ W) hd.ot
 exact ⟨p, vs, xs, e1, rfl, e2, e3, e4⟩
noncomputable def GotT (D : Dm) (O : List Addr) (H0 H : Hp) (d : DV) (v : V) : Prop := (∃ t ts p xs ds es, v = .ref t /\ d = .tup (.lst ds :: es) /\ SqT D.K (L2.wo O H) t (.ref p :: ts) /\ H0 p = none /\ H p = some (.lst xs) /\ RepL D (L2.wo (p :: O) H) ds xs /\ RepL D (L2.wo (p :: O) H) es ts) \/ ∃ xs, d = .lst xs /\ GotF H0 H xs v
noncomputable def spF (D : Dm) (n : Nat) (f : List DV -> Option Ou) : Sp := λ vs H Q E => ∃ O ds o, (∀ a ∈ O, H a ≠ none) /\ ds.length = n /\ RepL D (L2.wo O H) ds vs /\ f ds = some o /\
 (match o with | .v d fr => ∀ v H', Same H H' -> GotR D O H H' d fr v -> Q v H' | .t d => ∀ v H', Same H H' -> GotT D O H H' d v -> Q v H' | .x c => ∀ H' C, D.mg c = some C -> Same H H' -> E C none H')
section
variable {X : Cx} {E : St -> XK} {δ : List Sv} {e : Expr} {es : List Expr} {pos p : Pos} {re : Re} {rs : Option Rs} {k : Nat} {fa : Addr} {fd : FuncData} {ps : List Str} {x : Str}
theorem z1A {F : Nat -> List DV -> Option Ou} {f : Nat} (fo : FnOk X.prog X.w X.K X.mg X.base (CXx X.prog X.w X.base) k fa fd ps (spF X.D ps.length (F f))) (hn : ∀ ds o, F f ds = some o -> ds.length = ps.length) (hr : Room k X.A) (hg : Gl X x) (hm : X.mg x = some (.ref fa)) (hk : PySem.W.keepIn X.K (.ref fa) = true)
  (hb : q4u X.K fd ps []) (hx : q3I (CXx X.prog X.w X.base) X E) (ha : ∀ q, rs = some q -> PA X (e :: es) (dA X.D E δ q)) (hdb : (x == ("__debug__" : Str)) = false) (hs : q0y e = false) (hss : es.any q0y = false)
  (h : (Rs.thn rs λ l => q3v F f l) = some re) : PE X (.Call (.Name x p) (e :: es) [] pos) (dE X.D E δ re) := by
 have plain : ∀ (es : List Expr), es.any q0y = false -> (backTo pos (starEach es X.env)).any (·.1) = false := by
  intro es
  induction es with
  | nil => intro _; rfl
  | cons y ys ih =>
   intro q
   rw [List.any_cons, Bool.or_eq_false_iff] at q
   rw [q0p q.1]
   show (false || (backTo pos (starEach ys X.env)).any (·.1)) = false
   rw [ih q.2]; rfl
 have C := λ t (hA : PA X (e :: es) t) => z1a (p := p) (pos := pos) fo hr hg hm hk hb .nil hx hA hdb (q0p hs) (plain es hss)
 cases hrs : rs with
 | none => rw [hrs] at h; cases h
 | some q =>
  rw [hrs] at h
  have A := ha q hrs
  cases q with
  | ex c => cases h; exact (C _ A).weak λ σ H Q ⟨O, W, R, p⟩ => ⟨O, W, R, p⟩
  | ok l =>
   have h' : q3v F f l = some re := h
   unfold q3v at h'
   split at h'
   ·cases h'
   ·rename_i c e1
    cases h'
    refine (C _ A).weak λ σ H Q ⟨O, W, R, p⟩ => ⟨O, W, R, λ vs H1 s1 g1 => ?_⟩
    have hd := R.hid.mono s1
    show spF X.D ps.length (F f) (vs ++ []) H1 Q (E σ)
    rw [List.append_nil]
    exact ⟨O, _, _, λ a ha q => hd.ot a (List.mem_append_left _ ha) (s1.free q), hn _ _ e1, g1.repL hd, e1, λ H' C m s => p H' C m (s1.trans s)⟩
   ·rename_i d e1
    cases h'
    refine (C _ A).weak λ σ H Q ⟨O, W, R, p⟩ => ⟨O, W, R, λ vs H1 s1 g1 => ?_⟩
    have hd := R.hid.mono s1
    show spF X.D ps.length (F f) (vs ++ []) H1 Q (E σ)
    rw [List.append_nil]
    by_cases z : (l.all λ p => p.2 == .strong || p.2 == .fresh) = true
    ·rw [if_pos z] at p
     refine ⟨O ++ W, _, _, λ a ha q => hd.ot a ha (s1.free q), hn _ _ e1, g1.strong hd z, e1, λ v H' s g => p v H' (s1.trans s) ?_⟩
     rcases g with ⟨t, ts, q, xs, ds, es, f1, f2, f0, f3, f4, f5, f6⟩ | ⟨xs, f1, f2⟩
     ·subst f2
      exact ⟨t, ts, q, xs, ds, es, f1, rfl, f0, s1.free f3, f4, f5, f6⟩
     ·subst f1
      exact (f2.since λ a ha => s1.free ha).fresh hd
    ·rw [if_neg z] at p
     refine ⟨O, _, _, λ a ha q => hd.ot a (List.mem_append_left _ ha) (s1.free q), hn _ _ e1, g1.repL hd, e1, λ v H' s g => p v H' (s1.trans s) ?_⟩
     rcases g with ⟨t, ts, q, xs, ds, es, f1, f2, f0, f3, f4, f5, f6⟩ | ⟨xs, f1, f2⟩
     ·have hq : q ∉ O := λ z => hd.ot q (List.mem_append_left _ z) (s1.free f3)
      have up : Same (L2.wo (q :: O) H') (L2.wo O H') := q0R λ b hb => List.mem_cons_of_mem _ hb
      rw [f2]
      exact q0J.mpr ⟨t, _, f1, f0, q0k.mpr ⟨_, _, rfl, q0B.mpr ⟨q, xs, rfl, by rw [q0A hq]; exact f4, f5.mono up⟩, f6.mono up⟩⟩
     ·subst f1
      have hO : ∀ a ∈ O, H1 a ≠ none := λ a ha q => hd.ot a (List.mem_append_left _ ha) (s1.free q)
      obtain ⟨q, vs, g1', g2', g3', g4'⟩ := f2.items (D := X.D) hO
      have hq : q ∉ O := λ z => hO q z g2'
      exact q0B.mpr ⟨q, vs, g1', by rw [q0A hq]; exact g3', g4'.mono (q0R λ b hb => List.mem_cons_of_mem _ hb)⟩
   ·rename_i d fr e1
    cases h'
    refine (C _ A).weak λ σ H Q ⟨O, W, R, p⟩ => ⟨O, W, R, λ vs H1 s1 g1 => ?_⟩
    have hd := R.hid.mono s1
    show spF X.D ps.length (F f) (vs ++ []) H1 Q (E σ)
    rw [List.append_nil]
    by_cases z : (l.all λ p => p.2 == .strong || p.2 == .fresh) = true
    ·rw [if_pos z] at p
     refine ⟨O ++ W, _, _, λ a ha q => hd.ot a ha (s1.free q), hn _ _ e1, g1.strong hd z, e1, λ v H' s g => p v H' (s1.trans s) ?_⟩
     cases fr with
     | false => exact g
     | true =>
      obtain ⟨q, xs, ds, e1, e2, e3, e4, e5⟩ := g
      exact ⟨q, xs, ds, e1, e2, s1.free e3, e4, e5⟩
    ·rw [if_neg z] at p
     refine ⟨O, _, _, λ a ha q => hd.ot a (List.mem_append_left _ ha) (s1.free q), hn _ _ e1, g1.repL hd, e1, λ v H' s g => p v H' (s1.trans s) ?_⟩
     cases fr with
     | false => exact g
     | true =>
      obtain ⟨q, xs, ds, e1, e2, e3, e4, e5⟩ := g
      have hq : q ∉ O := λ z => hd.ot q (List.mem_append_left _ z) (s1.free e3)
      rw [e2]
      exact q0B.mpr ⟨q, xs, e1, by rw [q0A hq]; exact e4, e5.mono (q0R λ b hb => List.mem_cons_of_mem _ hb)⟩
end
section
variable {X : Cx} {E : St -> XK} {δ : List Sv} {e : Expr} {es : List Expr} {pos p : Pos} {re : Re} {rs : Option Rs}
theorem q3A {env : Env} {pos : Pos} : ∀ (es : List Expr), es.any q0y = false -> (backTo pos (starEach es env)).any (·.1) = false
 | [], _ => rfl
 | y :: ys, q => by
  rw [List.any_cons, Bool.or_eq_false_iff] at q
  rw [q0p q.1]
  show (false || (backTo pos (starEach ys env)).any (·.1)) = false
  rw [q3A ys q.2]; rfl
noncomputable def biR (X : Cx) (k : List (DV × Cl) -> Option Re) : List V -> Hp -> VK -> Prop := λ vs H Q => ∃ l re O W H0, k l = some re /\ Hid O W H0 H /\ GotL X.D O W H0 H l vs /\ ∃ d c, re = .ok d c /\ ∀ v H', Same H H' -> Got X.D O W H0 H' d c v -> Q v H'
theorem q7M {k : List (DV × Cl) -> Option Re} {x : Str} {id : String} (hc : q1o X (.builtin id) (biR X k)) (hk : ∀ l re, k l = some re -> ∃ d c, re = .ok d c) (hg : Gl X x) (hm : X.mg x = none) (hv : bootBuiltins x = some (.builtin id)) (hn : x ≠ "__name__") (hdb : (x == ("__debug__" : Str)) = false)
  (ha : ∀ q, rs = some q -> PA X (e :: es) (dA X.D E δ q)) (hs : q0y e = false) (hss : es.any q0y = false) (h : Rs.thn rs k = some re) : PE X (.Call (.Name x p) (e :: es) [] pos) (dE X.D E δ re) :=
 q3n (λ _ hA => q3l hc hg hm hv hA hn hdb (q0p hs) (q3A es hss)) ha h λ O W H0 H vs Q l σ hl hd g p => by
  obtain ⟨d, c, rfl⟩ := hk l re hl
  exact ⟨l, _, O, W, H0, hl, hd, g, d, c, rfl, p⟩
theorem q6W {k : List (DV × Cl) -> Option Re} {x : Str} {T : String} (hc : q1o X (.type T) (biR X k)) (hk : ∀ l re, k l = some re -> ∃ d c, re = .ok d c) (hg : Gl X x) (hm : X.mg x = none) (hv : bootBuiltins x = some (.type T)) (hn : x ≠ "__name__") (hdb : (x == ("__debug__" : Str)) = false)
  (ha : ∀ q, rs = some q -> PA X (e :: es) (dA X.D E δ q)) (hs : q0y e = false) (hss : es.any q0y = false) (h : Rs.thn rs k = some re) : PE X (.Call (.Name x p) (e :: es) [] pos) (dE X.D E δ re) :=
 q3n (λ _ hA => q6i hc hg hm hv hA hn hdb (q0p hs) (q3A es hss)) ha h λ O W H0 H vs Q l σ hl hd g p => by
  obtain ⟨d, c, rfl⟩ := hk l re hl
  exact ⟨l, _, O, W, H0, hl, hd, g, d, c, rfl, p⟩
theorem z3m : ∀ l re, lenD l = some re -> ∃ d c, re = .ok d c := λ l re h => by unfold lenD at h; split at h <;> cases h <;> exact ⟨_, _, rfl⟩
theorem z3u : ∀ l re, minD l = some re -> ∃ d c, re = .ok d c := λ l re h => by
 unfold minD at h
 split at h
 ·cases h; exact ⟨_, _, rfl⟩
 ·split at h
  ·cases h; exact ⟨_, _, rfl⟩
  ·cases h
 ·split at h
  ·cases h; exact ⟨_, _, rfl⟩
  ·cases h
 ·cases h
theorem q8x : ∀ l re, q3D l = some re -> ∃ d c, re = .ok d c := λ l re h => by
 unfold q3D at h
 split at h
 ·split at h
  ·split at h
   ·cases h; exact ⟨_, _, rfl⟩
   ·cases h
  ·cases h
 ·cases h
theorem z4u : ∀ l re, maxD l = some re -> ∃ d c, re = .ok d c := λ l re h => by
 unfold maxD at h
 split at h
 ·cases h; exact ⟨_, _, rfl⟩
 ·split at h
  ·cases h; exact ⟨_, _, rfl⟩
  ·cases h
 ·cases h
theorem q3m {D : Dm} {H : Hp} : ∀ {ds : List DV} {ns : List Int} {xs : List V}, ints? ds = some ns -> RepL D H ds xs -> xs = ns.map V.int
 | [], ns, xs, h, r => by
  cases h
  exact q0z.mp r
 | .int i :: ds, ns, xs, h, r => by
  have h' : (ints? ds).map (i :: ·) = some ns := h
  obtain ⟨ms, e1, e2⟩ := Option.map_eq_some_iff.mp h'
  obtain ⟨v, vs, e3, e4, e5⟩ := q0k.mp r
  have q := q3m e1 e5
  rw [<- e2, e3, List.map_cons, q0O.mp e4, q]
 | .non :: ds, ns, xs, h, _ => by cases h
 | .bl _ :: ds, ns, xs, h, _ => by cases h
 | .str _ :: ds, ns, xs, h, _ => by cases h
 | .tup _ :: ds, ns, xs, h, _ => by cases h
 | .lst _ :: ds, ns, xs, h, _ => by cases h
 | .dct _ _ :: ds, ns, xs, h, _ => by cases h
 | .exc _ :: ds, ns, xs, h, _ => by cases h
 | .fn _ :: ds, ns, xs, h, _ => by cases h
 | .scr _ :: ds, ns, xs, h, _ => by cases h
theorem q7V : ∀ (r : List Int) (m : Int), (minI m r = m \/ minI m r ∈ r) /\ minI m r <= m /\ ∀ x ∈ r, minI m r <= x
 | [], m => ⟨.inl rfl, Int.le_refl _, λ x h => by cases h⟩
 | y :: r, m => by
  obtain ⟨h0, h1, h2⟩ := q7V r (if y < m then y else m)
  unfold minI
  by_cases q : y < m
  ·rw [if_pos q] at h0 h1 h2 ⊢
   refine ⟨.inr ?_, by omega, λ x hx => ?_⟩
   ·rcases h0 with z | z
    ·rw [z]; exact List.mem_cons_self ..
    ·exact List.mem_cons_of_mem _ z
   ·rcases List.mem_cons.mp hx with z | z
    ·rw [z]; exact h1
    ·exact h2 x z
  ·rw [if_neg q] at h0 h1 h2 ⊢
   refine ⟨h0.imp id (List.mem_cons_of_mem _), h1, λ x hx => ?_⟩
   rcases List.mem_cons.mp hx with z | z
   ·rw [z]; omega
   ·exact h2 x z
theorem q6y : ∀ (r : List Int) (m : Int), (maxI m r = m \/ maxI m r ∈ r) /\ m <= maxI m r /\ ∀ x ∈ r, x <= maxI m r
 | [], m => ⟨.inl rfl, Int.le_refl _, λ x h => by cases h⟩
 | y :: r, m => by
  obtain ⟨h0, h1, h2⟩ := q6y r (if m < y then y else m)
  unfold maxI
  by_cases q : m < y
  ·rw [if_pos q] at h0 h1 h2 ⊢
   refine ⟨.inr ?_, by omega, λ x hx => ?_⟩
   ·rcases h0 with z | z
    ·rw [z]; exact List.mem_cons_self ..
    ·exact List.mem_cons_of_mem _ z
   ·rcases List.mem_cons.mp hx with z | z
    ·rw [z]; exact h1
    ·exact h2 x z
  ·rw [if_neg q] at h0 h1 h2 ⊢
   refine ⟨h0.imp id (List.mem_cons_of_mem _), h1, λ x hx => ?_⟩
   rcases List.mem_cons.mp hx with z | z
   ·rw [z]; omega
   ·exact h2 x z
theorem q8a {n M : Int} {r : List Int} (h1 : M ∈ n :: r) (h2 : ∀ x ∈ n :: r, M <= x) : M = minI n r := by
 obtain ⟨a, b, c⟩ := q7V r n
 have d : minI n r ∈ n :: r := a.elim (λ z => by rw [z]; exact List.mem_cons_self ..) (List.mem_cons_of_mem _)
 have e := h2 _ d
 have f : minI n r <= M := by
  rcases List.mem_cons.mp h1 with z | z
  ·rw [z]; exact b
  ·exact c M z
 omega
theorem z1H {n M : Int} {r : List Int} (h1 : M ∈ n :: r) (h2 : ∀ x ∈ n :: r, x <= M) : M = maxI n r := by
 obtain ⟨a, b, c⟩ := q6y r n
 have d : maxI n r ∈ n :: r := a.elim (λ z => by rw [z]; exact List.mem_cons_self ..) (List.mem_cons_of_mem _)
 have e := h2 _ d
 have f : M <= maxI n r := by
  rcases List.mem_cons.mp h1 with z | z
  ·rw [z]; exact b
  ·exact c M z
 omega
theorem q4s (x : Int) : ∀ l : List Int, (insI x l).Perm (x :: l)
 | [] => .rfl
 | y :: r => by
  unfold insI
  split
  ·exact .rfl
  ·exact (List.Perm.cons y (q4s x r)).trans (List.Perm.swap x y r)
theorem q4Q : ∀ l : List Int, (q3B l).Perm l
 | [] => .rfl
 | x :: r => (q4s x (q3B r)).trans (List.Perm.cons x (q4Q r))
theorem q9p (x : Int) : ∀ {l : List Int}, l.Pairwise (· <= ·) -> (insI x l).Pairwise (· <= ·)
 | [], _ => List.pairwise_singleton _ _
 | y :: r, h => by
  obtain ⟨h1, h2⟩ := List.pairwise_cons.mp h
  unfold insI
  split
  ·rename_i q
   refine List.pairwise_cons.mpr ⟨λ z hz => ?_, h⟩
   rcases List.mem_cons.mp hz with e | e
   ·omega
   ·have := h1 z e
    omega
  ·rename_i q
   refine List.pairwise_cons.mpr ⟨λ z hz => ?_, q9p x h2⟩
   rcases List.mem_cons.mp ((q4s x r).mem_iff.mp hz) with e | e
   ·omega
   ·exact h1 z e
theorem q7G : ∀ l : List Int, (q3B l).Pairwise (· <= ·)
 | [] => .nil
 | x :: r => q9p x (q7G r)
theorem z2v : ∀ {a b : List Int}, a.Perm b -> a.Pairwise (· <= ·) -> b.Pairwise (· <= ·) -> a = b
 | [], b, p, _, _ => (List.Perm.nil_eq p)
 | x :: a, b, p, ha, hb => by
  cases b with
  | nil => exact absurd p.length_eq (by simp)
  | cons y b =>
   obtain ⟨a1, a2⟩ := List.pairwise_cons.mp ha
   obtain ⟨b1, b2⟩ := List.pairwise_cons.mp hb
   have e : x = y := by
    have q1 := p.mem_iff.mp (List.mem_cons_self (a := x) (l := a))
    have q2 := p.mem_iff.mpr (List.mem_cons_self (a := y) (l := b))
    rcases List.mem_cons.mp q1 with z | z
    ·exact z
    ·rcases List.mem_cons.mp q2 with z2 | z2
     ·exact z2.symm
     ·have := a1 y z2
      have := b1 x z
      omega
   subst e
   rw [z2v (List.Perm.cons_inv p) a2 b2]
theorem z3P : ∀ l re, intD l = some re -> ∃ d c, re = .ok d c := λ l re h => by unfold intD at h; split at h <;> cases h <;> exact ⟨_, _, rfl⟩
theorem z1D : ∀ l re, q8o l = some re -> ∃ d c, re = .ok d c := λ l re h => by unfold q8o at h; split at h <;> cases h <;> exact ⟨_, _, rfl⟩
theorem z0z : ∀ l re, q4X l = some re -> ∃ d c, re = .ok d c := λ l re h => by unfold q4X at h; split at h <;> cases h <;> exact ⟨_, _, rfl⟩
theorem z6H : q1o X (.builtin "len") (biR X lenD) := by
 intro pins s σ H xs us Q I r h
 obtain ⟨l, re, O, W, H0, hb, hd, g, d, c, rfl, p⟩ := h
 unfold lenD at hb
 split at hb
 ·cases hb
  obtain ⟨v, rfl, gv⟩ := g.one
  obtain ⟨a, ys, e1, e2, e3⟩ := gv.lst hd
  exact q2D pins s σ H _ us Q I r ⟨a, ys, by rw [e1], .inl (SqL.of e2), by rw [e3.length]; exact p _ H (Same.refl H) q0I⟩
 ·cases hb
  obtain ⟨v, rfl, gv⟩ := g.one
  obtain ⟨a, ys, e1, e2, e3⟩ := gv.tup hd
  exact q2D pins s σ H _ us Q I r ⟨a, ys, by rw [e1], .inr e2, by rw [e3.length]; exact p _ H (Same.refl H) q0I⟩
 ·cases hb
  obtain ⟨v, rfl, gv⟩ := g.one
  obtain ⟨a, e1, e2⟩ := q1V.mp (gv.all hd)
  exact q2D pins s σ H _ us Q I r ⟨a, _, by rw [e1], .inl e2.sq, by rw [List.length_map]; exact p _ H (Same.refl H) q0I⟩
 ·cases hb
  obtain ⟨v, rfl, gv⟩ := g.one
  obtain ⟨e1, e2⟩ := gv.str hd
  exact q6v pins s σ H _ us Q I r ⟨_, by rw [e1], e2, p _ H (Same.refl H) q0I⟩
 ·cases hb
theorem z5u (hc : X.calm = true) : q1o X (.builtin "min") (biR X minD) := by
 intro pins s σ H xs us Q I r h
 obtain ⟨l, re, O, W, H0, hb, hd, g, d, c, rfl, p⟩ := h
 unfold minD at hb
 split at hb
 ·cases hb
  obtain ⟨v, v', rfl, gv, gv'⟩ := g.two
  exact z0b hc pins s σ H _ us Q I r ⟨_, _, by rw [gv.int hd, gv'.int hd], p _ H (Same.refl H) q0I⟩
 ·split at hb
  ·rename_i n r' hq
   cases hb
   obtain ⟨v, rfl, gv⟩ := g.one
   obtain ⟨a, ys, e1, e2, e3⟩ := gv.lst hd
   have e4 := q3m hq e3
   subst e4
   exact q9l hc pins s σ H _ us Q I r ⟨a, n :: r', by rw [e1], SqL.of e2, by simp, λ M m1 m2 => by rw [q8a m1 m2]; exact p _ H (Same.refl H) q0I⟩
  ·cases hb
 ·split at hb
  ·rename_i n r' hq
   cases hb
   obtain ⟨v, rfl, gv⟩ := g.one
   obtain ⟨a, ys, e1, e2, e3⟩ := gv.tup hd
   have e4 := q3m hq e3
   subst e4
   exact q9B hc pins s σ H _ us Q I r ⟨a, n :: r', by rw [e1], e2, by simp, λ M m1 m2 => by rw [q8a m1 m2]; exact p _ H (Same.refl H) q0I⟩
  ·cases hb
 ·cases hb
theorem z5X (hc : X.calm = true) : q1o X (.builtin "max") (biR X maxD) := by
 intro pins s σ H xs us Q I r h
 obtain ⟨l, re, O, W, H0, hb, hd, g, d, c, rfl, p⟩ := h
 unfold maxD at hb
 split at hb
 ·cases hb
  obtain ⟨v, v', rfl, gv, gv'⟩ := g.two
  exact z0n hc pins s σ H _ us Q I r ⟨_, _, by rw [gv.int hd, gv'.int hd], p _ H (Same.refl H) q0I⟩
 ·split at hb
  ·rename_i n r' hq
   cases hb
   obtain ⟨v, rfl, gv⟩ := g.one
   obtain ⟨a, ys, e1, e2, e3⟩ := gv.lst hd
   have e4 := q3m hq e3
   subst e4
   exact z0E hc pins s σ H _ us Q I r ⟨a, n :: r', by rw [e1], SqL.of e2, by simp, λ M m1 m2 => by rw [z1H m1 m2]; exact p _ H (Same.refl H) q0I⟩
  ·cases hb
 ·cases hb
theorem q3Q : bootBuiltins "sorted" = some (.builtin "sorted") := by decide +kernel
theorem z0c : bootBuiltins "set" = some (.type "set") := by decide +kernel
theorem z1S {p' : Pos} {pos' : Pos} (hc : X.calm = true) (hg : Gl X "sorted") (hm : X.mg "sorted" = none) (hg' : Gl X "set") (hm' : X.mg "set" = none)
  (ha : ∀ q, rs = some q -> PA X [e] (dA X.D E δ q)) (hs : q0y e = false) (h : Rs.thn rs z1r = some re) : PE X (.Call (.Name "sorted" p) [.Call (.Name "set" p') [e] [] pos'] [] pos) (dE X.D E δ re) :=
 q3n (r := λ vs H Q => (∃ (a : Addr) (ns : List Int), vs = [.ref a] /\ SqL X.K H a (ns.map V.int) /\ ns.length < 4000 /\ ∀ p, H p = none -> ∃ (p1 : Addr) (ks : List Int), [V.ref p] = [.ref p1] /\ upd H p (setO X.prog X.w p (ns.foldl dk [])) p1 = some (setO X.prog X.w p1 ks) /\ ks.length < 64 /\
   ∀ (q : Addr) (ms : List Int), upd H p (setO X.prog X.w p (ns.foldl dk [])) q = none -> ms.Perm ks -> ms.Pairwise (· <= ·) -> Q (.ref q) (upd (upd H p (setO X.prog X.w p (ns.foldl dk []))) q (.lst (ms.map V.int)))))
  (λ t hA => by
   have q1 := q6i (p := p') (pos := pos') (z0M hc) hg' hm' z0c hA (by decide) (by decide) (q0p hs) rfl
   have q2 := q3l (p := p) (pos := pos) (q8P hc) hg hm q3Q (q0Z q1 q3j) (by decide) (by decide) rfl rfl
   exact q2.weak λ σ H Q h => h) ha h λ O W H0 H vs Q l σ hl hd g pp => by
  unfold z1r at hl
  split at hl
  ·split at hl
   ·rename_i ds c ns hq
    split at hl
    ·rename_i hb
     cases hl
     obtain ⟨v, rfl, gv⟩ := g.one
     obtain ⟨a, ys, e1, e2, e3⟩ := gv.lst hd
     have e4 := q3m hq e3
     subst e4
     refine ⟨a, ns, by rw [e1], SqL.of e2, hb.1, λ p1 hp1 => ⟨p1, _, rfl, q0T, hb.2, λ q ms hq1 pm pw => ?_⟩⟩
     have e5 : ms = q3B (ns.foldl dk []) := z2v (pm.trans (q4Q _).symm) pw (q7G _)
     subst e5
     have s1 : Same H (upd H p1 (setO X.prog X.w p1 (ns.foldl dk []))) := q0u hp1
     exact pp _ _ (s1.trans (q0u hq1)) (q1W (hd.mono s1) hq1 (q2b _))
    ·cases hl
   ·cases hl
  ·cases hl
theorem z5Y : q1o X (.type "int") (biR X intD) := by
 intro pins s σ H xs us Q I r h
 obtain ⟨l, re, O, W, H0, hb, hd, g, d, c, rfl, p⟩ := h
 unfold intD at hb
 split at hb
 ·cases hb
  obtain ⟨v, rfl, gv⟩ := g.one
  exact q6p pins s σ H _ us Q I r (.inl ⟨_, by rw [gv.int hd], p _ H (Same.refl H) q0I⟩)
 ·cases hb
  obtain ⟨v, rfl, gv⟩ := g.one
  exact q6p pins s σ H _ us Q I r (.inr ⟨_, by rw [gv.bl hd], p _ H (Same.refl H) q0I⟩)
 ·cases hb
theorem z4K : q1o X (.type "list") (biR X q8o) := by
 intro pins s σ H xs us Q I r h
 obtain ⟨l, re, O, W, H0, hb, hd, g, d, c, rfl, p⟩ := h
 unfold q8o at hb
 split at hb
 ·cases hb
  obtain ⟨v, rfl, gv⟩ := g.one
  obtain ⟨a, e1, e2⟩ := q1V.mp (gv.all hd)
  exact q2w pins s σ H _ us Q I r ⟨a, _, by rw [e1], .inl e2.sq, λ q hq => p _ _ (q0u hq) (q1W hd hq (q2b _))⟩
 ·cases hb
  obtain ⟨v, rfl, gv⟩ := g.one
  obtain ⟨a, ys, e1, e2, e3⟩ := gv.lstC hd
  exact q2w pins s σ H _ us Q I r ⟨a, ys, by rw [e1], .inl (SqL.of e2), λ q hq => p _ _ (q0u hq) (q4c hd hq e3)⟩
 ·cases hb
  obtain ⟨v, rfl, gv⟩ := g.one
  obtain ⟨a, ys, e1, e2, e3⟩ := gv.tupC hd
  exact q2w pins s σ H _ us Q I r ⟨a, ys, by rw [e1], .inr e2, λ q hq => p _ _ (q0u hq) (q4c hd hq e3)⟩
 ·cases hb
theorem q6K {D : Dm} {H : Hp} : ∀ {ds : List DV} {ps : List (Int × Int)} {xs : List V}, pairs? ds = some ps -> RepL D H ds xs -> PrsV D.K H xs ps
 | [], ps, xs, h, r => by
  cases h
  rw [q0z.mp r]
  exact trivial
 | d0 :: ds, ps, xs, h, r => by
  unfold pairs? at h
  split at h
  ·rename_i q; cases q
  ·rename_i a b r' q
   cases q
   obtain ⟨ms, e1, e2⟩ := Option.map_eq_some_iff.mp h
   obtain ⟨v, vs, e3, e4, e5⟩ := q0k.mp r
   have q := q6K e1 e5
   obtain ⟨c, ys, f1, f2, f3⟩ := q0J.mp e4
   obtain ⟨v1, l1, g1, g2, g3⟩ := q0k.mp f3
   obtain ⟨v2, l2, g4, g5, g6⟩ := q0k.mp g3
   rw [<- e2, e3]
   refine ⟨⟨c, f1, ?_⟩, q⟩
   rw [g1, g4, q0z.mp g6, q0O.mp g2, q0O.mp g5] at f2
   exact f2
  ·cases h
theorem PrsV.le {K : PySem.W.Frag} {H H' : Hp} (e : Same H H') : ∀ {vs : List V} {ps : List (Int × Int)}, PrsV K H vs ps -> PrsV K H' vs ps
 | [], [], _ => trivial
 | _ :: _, _ :: _, x => by
  obtain ⟨⟨a, h1, h2⟩, h3⟩ := x
  exact ⟨⟨a, h1, e.tseq h2⟩, h3.le e⟩
 | [], _ :: _, x => x.elim
 | _ :: _, [], x => x.elim
theorem q9m : q1o X (.builtin "sorted") (biR X q3D) := by
 intro pins s σ H xs us Q I r h
 obtain ⟨l, re, O, W, H0, hb, hd, g, d, c, rfl, p⟩ := h
 unfold q3D at hb
 split at hb
 ·split at hb
  ·rename_i ps hq
   split at hb
   ·rename_i m
    cases hb
    obtain ⟨v, rfl, gv⟩ := g.one
    obtain ⟨a, ys, e1, e2, e3⟩ := gv.lstC hd
    exact q8K pins s σ H _ us Q I r ⟨a, ys, ps, by rw [e1], SqL.of e2, (q6K hq e3).le q1G, m.1, m.2, λ q hq => p _ _ (q0u hq) (q4c hd hq e3)⟩
   ·cases hb
  ·cases hb
 ·cases hb
theorem z1L : q1o X (.type "tuple") (biR X q4X) := by
 intro pins s σ H xs us Q I r h
 obtain ⟨l, re, O, W, H0, hb, hd, g, d, c, rfl, p⟩ := h
 unfold q4X at hb
 split at hb
 ·cases hb
  obtain ⟨v, rfl, gv⟩ := g.one
  obtain ⟨a, ys, e1, e2, e3⟩ := gv.lstC hd
  exact q3g pins s σ H _ us Q I r ⟨a, ys, by rw [e1], .inl ⟨SqL.of e2, λ q hq => p _ _ (q0u hq) (q7I hd hq e3)⟩⟩
 ·cases hb
  obtain ⟨v, rfl, gv⟩ := g.one
  obtain ⟨a, ys, e1, e2, e3⟩ := gv.tupC hd
  exact q3g pins s σ H _ us Q I r ⟨a, ys, by rw [e1], .inr ⟨e2, p _ _ (Same.refl H) (by rw [<- e1]; exact gv)⟩⟩
 ·cases hb
end
noncomputable def tyS : DV -> Option String
 | .non => some "NoneType" | .bl _ => some "bool" | .int _ => some "int" | .str _ => some "str" | .tup _ => some "tuple" | .lst _ => some "list" | .dct _ _ => some "dict"
 | _ => none
noncomputable def z5z (T t : String) : Option Bool := if (Value.type T == Value.type t) = true then some true else if PySem.W.kitMeta t = true then (fastBuiltinMro T).map (·.contains (.type t)) else none
theorem q9P : (["NoneType", "bool", "int", "str", "tuple", "list", "dict"] : List String).all (λ T => (["int", "bool", "str", "list", "tuple", "dict"] : List String).all λ t => z5z T t == some (T == t || (T == "bool" && t == "int"))) = true := by decide +kernel
theorem q3i {K : PySem.W.Frag} (T t : String) (h1 : T ∈ ["NoneType", "bool", "int", "str", "tuple", "list", "dict"]) (h2 : t ∈ ["int", "bool", "str", "list", "tuple", "dict"]) :
  PySem.W.kitOne K (.type T) (.type t) = some (T == t || (T == "bool" && t == "int")) := by
 have q := List.all_eq_true.mp (List.all_eq_true.mp q9P T h1) t h2
 exact (show z5z T t = _ from by simpa using q)
section
variable {X : Cx} {E : St -> XK} {δ : List Sv} {e e' : Expr} {pos p p' : Pos} {re : Re} {ra : Option Re}
theorem z5S {pins : List (Addr × Obj)} {σ : St} {H : Hp} {s : Shared} {Q : Value -> Shared -> Prop} {EE : Value -> Shared -> Prop} {d : DV} {v : V} {u : Value} {T t : String} (I : Inv X pins σ H s) (r : Rep X.D H d v) (rv : RelV v u) (hT : tyS d = some T) (ht : t ∈ ["int", "bool", "str", "list", "tuple", "dict"])
  (h : ∀ tk, Q (.bool (T == t || (T == "bool" && t == "int"))) { s with toks := tk }) : wpAny (model X.prog X.w) X.A (call (.builtin "isinstance") [u, .type t]) Q EE s := by
 cases d with
 | non => cases hT; rw [q2R.mp r] at rv; cases rv; exact PySem.W.kia_one PySem.W.kitx_none I.kIn True.intro (q3i _ _ (by simp) ht) (λ z => nomatch z) h
 | bl b => cases hT; rw [q3M.mp r] at rv; cases rv; exact PySem.W.kia_one PySem.W.kitx_bool I.kIn True.intro (q3i _ _ (by simp) ht) (λ z => nomatch z) h
 | int b => cases hT; rw [q0O.mp r] at rv; obtain ⟨tk, rfl⟩ := rv; exact PySem.W.kia_one PySem.W.kitx_int I.kIn True.intro (q3i _ _ (by simp) ht) (λ z => nomatch z) h
 | str b => cases hT; rw [(q2e.mp r).1] at rv; obtain ⟨tk, rfl⟩ := rv; exact PySem.W.kia_one PySem.W.kitx_str I.kIn True.intro (q3i _ _ (by simp) ht) (λ z => nomatch z) h
 | tup ds =>
  cases hT
  obtain ⟨a, xs, e1, e2, e3⟩ := q0J.mp r
  rw [e1] at rv; cases rv
  obtain ⟨its, _, ⟨o, h1, h2, _⟩, _⟩ := I.tuple e2
  exact PySem.W.kia_one PySem.W.kitx_tuple I.kIn ⟨o, h1, h2⟩ (q3i _ _ (by simp) ht) (λ z => nomatch z) h
 | lst ds =>
  cases hT
  obtain ⟨a, xs, e1, e2, e3⟩ := q0B.mp r
  rw [e1] at rv; cases rv
  obtain ⟨_, its, n, _, _, h1⟩ := I.lstM e2
  exact PySem.W.kia_one PySem.W.kitx_list I.kIn ⟨_, h1, rfl⟩ (q3i _ _ (by simp) ht) (λ z => nomatch z) h
 | dct ks vs =>
  cases hT
  obtain ⟨a, kvs, e1, e2⟩ := q6L.mp r
  rw [e1] at rv; cases rv
  obtain ⟨_, _, _, _, ⟨o, _, _, h1, h2, _⟩⟩ := (show q1v X.prog X.w H s.heap a (.dK kvs) from I.hok a _ e2)
  exact PySem.W.kia_one PySem.W.kitx_dict I.kIn ⟨o, h1, h2.1⟩ (q3i _ _ (by simp) ht) (λ z => nomatch z) h
 | exc _ => cases hT
 | fn _ => cases hT
 | scr _ => cases hT
noncomputable def rIsi (X : Cx) : List V -> Hp -> VK -> Prop := λ xs H Q => ∃ d T t x, xs = [x, .ty t] /\ Rep X.D H d x /\ tyS d = some T /\ t ∈ ["int", "bool", "str", "list", "tuple", "dict"] /\ Q (.bl (T == t || (T == "bool" && t == "int"))) H
theorem z1G : q1o X (.builtin "isinstance") (rIsi X) := by
 intro pins s σ H xs us Q I r h
 obtain ⟨d, T, t, x, rfl, r1, hT, ht, q⟩ := h
 obtain ⟨u, w', rfl, ru, rw'⟩ := q7d r
 cases rw'
 exact z5S I r1 ru hT ht λ tk => ⟨.bl _, H, I.tok tk, rfl, q⟩
noncomputable def q3N : Str -> Option String := λ x => (["int", "bool", "str", "list", "tuple", "dict"] : List String).find? λ t => Str.ofString t == x
theorem q5n {x : Str} {t : String} (h : q3N x = some t) : bootBuiltins x = some (.type t) /\ t ∈ ["int", "bool", "str", "list", "tuple", "dict"] /\ Str.ofString t = x := by
 unfold q3N at h
 have h1 := List.find?_some h
 have h2 := List.mem_of_find?_eq_some h
 have h3 : Str.ofString t = x := by simpa using h1
 refine ⟨?_, h2, h3⟩
 subst h3
 simp only [List.mem_cons, List.not_mem_nil, or_false] at h2
 rcases h2 with rfl | rfl | rfl | rfl | rfl | rfl
 ·exact boot_int
 ·exact boot_bool
 ·exact boot_str
 ·exact boot_list
 ·exact boot_tuple
 ·exact boot_dict
noncomputable def z0e : String -> List Str
 | "NoneType" => ["NoneType"] | "bool" => ["bool", "int"] | "int" => ["int"] | "str" => ["str"] | "tuple" => ["tuple"] | "list" => ["list"] | "dict" => ["dict"]
 | _ => []
theorem q7b : (["NoneType", "bool", "int", "str", "tuple", "list", "dict"] : List String).all (λ T => (["int", "bool", "str", "list", "tuple", "dict"] : List String).all λ t => (z0e T).contains (Str.ofString t) == (T == t || (T == "bool" && t == "int"))) = true := by decide +kernel
theorem z0h {d : DV} {x : Str} {t T : String} (h : q3N x = some t) (hT : tyS d = some T) : (tyOf d).contains x = (T == t || (T == "bool" && t == "int")) := by
 obtain ⟨_, h2, h3⟩ := q5n h
 subst h3
 have key : ∀ T ∈ (["NoneType", "bool", "int", "str", "tuple", "list", "dict"] : List String), (z0e T).contains (Str.ofString t) = (T == t || (T == "bool" && t == "int")) := λ T hT => by
  have q := List.all_eq_true.mp (List.all_eq_true.mp q7b T hT) t h2
  simpa using q
 cases d <;> cases hT
 ·exact key "NoneType" (by simp)
 ·exact key "bool" (by simp)
 ·exact key "int" (by simp)
 ·exact key "str" (by simp)
 ·exact key "tuple" (by simp)
 ·exact key "list" (by simp)
 ·exact key "dict" (by simp)
theorem z4Q {G : Gs} {x : Str} {t : String} (ht : q3N x = some t) (hg : Gl X "isinstance") (hm : X.mg "isinstance" = none) (hgx : Gl X x) (hmx : X.mg x = none) (hnx : x ≠ "__name__") (hdx : (x == ("__debug__" : Str)) = false)
  (ha : ∀ q, ra = some q -> PE X e (dE X.D E δ q)) (hs : q0y e = false) (h : (Re.thn ra λ y _ => (isiD G y [x]).map λ k => .ok (.bl k) .strong) = some re) : PE X (.Call (.Name "isinstance" p) [e, .Name x p'] [] pos) (dE X.D E δ re) := by
 obtain ⟨b1, b2, b3⟩ := q5n ht
 have T : PE X (.Name x p') (tC (.ty t)) := q5w hgx hmx b1 rfl hnx hdx
 have C := λ ta (hA : PE X e ta) => q3l (p := p) (pos := pos) z1G hg hm boot_isinstance (q0Z hA (q0Z T q3j) (q0p hs)) (by decide) (by decide) (q0p hs)
 cases hra : ra with
 | none => rw [hra] at h; cases h
 | some q =>
  rw [hra] at h
  have A := ha q hra
  cases q with
  | ex c => cases h; exact (C _ A).weak λ σ H Q ⟨O, W, R, p⟩ => ⟨O, W, R, p⟩
  | ok d cl =>
   obtain ⟨k, e1, e2⟩ := Option.map_eq_some_iff.mp (show ((isiD G d [x]).map λ k => Re.ok (.bl k) .strong) = some re from h)
   cases e2
   have key : ∃ T, tyS d = some T /\ k = (tyOf d).contains x := by
    unfold isiD at e1
    have px : q1g.contains x = true := by
     rw [<- b3]
     simp only [List.mem_cons, List.not_mem_nil, or_false] at b2
     rcases b2 with rfl | rfl | rfl | rfl | rfl | rfl <;> decide +kernel
    cases d <;> first
     | (simp only [px, if_true] at e1; cases e1; exact ⟨_, rfl, rfl⟩)
     | cases e1
   obtain ⟨T, hT, hk⟩ := key
   exact (C _ A).weak λ σ H Q ⟨O, W, R, p⟩ => ⟨O, W, R, λ v H1 s1 g1 => ⟨d, T, t, v, rfl, g1.all (R.hid.mono s1), hT, b2, by rw [<- z0h ht hT, <- hk]; exact p _ H1 s1 q4v⟩⟩
end
end L2
end
section
namespace L2
open PySem PySem.Spec PyProof.Rows
noncomputable def tyIs (T t : String) : Bool := T == t || (T == "bool" && t == "int")
theorem z3M {K : PySem.W.Frag} {T t1 t2 : String} (h : T ∈ ["NoneType", "bool", "int", "str", "tuple", "list", "dict"]) (h1 : t1 ∈ ["int", "bool", "str", "list", "tuple", "dict"]) (h2 : t2 ∈ ["int", "bool", "str", "list", "tuple", "dict"]) :
  PySem.W.kitAny K (.type T) [.type t1, .type t2] = some (tyIs T t1 || tyIs T t2) := by
 have e1 : PySem.W.kitOne K (.type T) (.type t1) = some (tyIs T t1) := q3i T t1 h h1
 have e2 : PySem.W.kitOne K (.type T) (.type t2) = some (tyIs T t2) := q3i T t2 h h2
 unfold PySem.W.kitAny
 rw [e1]
 cases tyIs T t1 with
 | true => rfl
 | false =>
  show PySem.W.kitAny K (.type T) [.type t2] = _
  unfold PySem.W.kitAny
  rw [e2]
  cases tyIs T t2 <;> rfl
section
variable {X : Cx} {E : St -> XK} {δ : List Sv} {e : Expr} {pos p : Pos} {ra : Option Re} {re : Re}
theorem z6C {pins : List (Addr × Obj)} {σ : St} {H : Hp} {s : Shared} {d : DV} {v : V} {u : Value} {T : String} (I : Inv X pins σ H s) (r : Rep X.D H d v) (rv : RelV v u) (hT : tyS d = some T) :
  ∃ HH : Heap -> Prop, PySem.W.KitX X.K u (.type T) HH /\ HH s.heap /\ u ≠ .builtin "__main__.__loader__#opaque" /\ T ∈ ["NoneType", "bool", "int", "str", "tuple", "list", "dict"] := by
 cases d with
 | non => cases hT; rw [q2R.mp r] at rv; cases rv; exact ⟨_, PySem.W.kitx_none, True.intro, (λ z => nomatch z), by simp⟩
 | bl b => cases hT; rw [q3M.mp r] at rv; cases rv; exact ⟨_, PySem.W.kitx_bool, True.intro, (λ z => nomatch z), by simp⟩
 | int b => cases hT; rw [q0O.mp r] at rv; obtain ⟨tk, rfl⟩ := rv; exact ⟨_, PySem.W.kitx_int, True.intro, (λ z => nomatch z), by simp⟩
 | str b => cases hT; rw [(q2e.mp r).1] at rv; obtain ⟨tk, rfl⟩ := rv; exact ⟨_, PySem.W.kitx_str, True.intro, (λ z => nomatch z), by simp⟩
 | tup ds =>
  cases hT
  obtain ⟨a, xs, e1, e2, e3⟩ := q0J.mp r
  rw [e1] at rv; cases rv
  obtain ⟨its, _, ⟨o, h1, h2, _⟩, _⟩ := I.tuple e2
  exact ⟨_, PySem.W.kitx_tuple, ⟨o, h1, h2⟩, (λ z => nomatch z), by simp⟩
 | lst ds =>
  cases hT
  obtain ⟨a, xs, e1, e2, e3⟩ := q0B.mp r
  rw [e1] at rv; cases rv
  obtain ⟨_, its, n, _, _, h1⟩ := I.lstM e2
  exact ⟨_, PySem.W.kitx_list, ⟨_, h1, rfl⟩, (λ z => nomatch z), by simp⟩
 | dct ks vs =>
  cases hT
  obtain ⟨a, kvs, e1, e2⟩ := q6L.mp r
  rw [e1] at rv; cases rv
  obtain ⟨_, _, _, _, ⟨o, _, _, h1, h2, _⟩⟩ := (show q1v X.prog X.w H s.heap a (.dK kvs) from I.hok a _ e2)
  exact ⟨_, PySem.W.kitx_dict, ⟨o, h1, h2.1⟩, (λ z => nomatch z), by simp⟩
 | exc _ => cases hT
 | fn _ => cases hT
 | scr _ => cases hT
noncomputable def z6Y (X : Cx) : List V -> Hp -> VK -> Prop := λ xs H Q => ∃ d T t1 t2 x q, xs = [x, .ref q] /\ Rep X.D H d x /\ tyS d = some T /\ t1 ∈ ["int", "bool", "str", "list", "tuple", "dict"] /\ t2 ∈ ["int", "bool", "str", "list", "tuple", "dict"] /\ H q = some (.tup [.ty t1, .ty t2]) /\ Q (.bl (tyIs T t1 || tyIs T t2)) H
theorem z0G : q1o X (.builtin "isinstance") (z6Y X) := by
 intro pins s σ H xs us Q I r h
 obtain ⟨d, T, t1, t2, x, q, rfl, r1, hT, h1, h2, hq, k⟩ := h
 obtain ⟨u, w', rfl, ru, rw'⟩ := q7d r
 cases rw'
 obtain ⟨HH, Z, z1, z2, z3⟩ := z6C I r1 ru hT
 obtain ⟨its, ri, ⟨⟨oc, od, oda, osl⟩, o1, o2, n, o3⟩, _⟩ := I.tuple (SqT.of hq)
 obtain ⟨u1, u2, e, v1, v2⟩ := q7d ri
 have o2' : oc = .type "tuple" := o2
 have o3' : oda = .seq its.toArray n := o3
 subst o2' o3'
 cases v1; cases v2
 subst e
 exact PySem.W.kia_tup Z I.kIn z1 o1 (z3M z3 h1 h2) z2 λ tk => ⟨.bl _, H, I.tok tk, rfl, k⟩
theorem z1J {x1 x2 : Str} {t1 t2 : String} {p1 p2 tp : Pos} {kk : Nat} {kf : DV -> Option Bool} (h1 : q3N x1 = some t1) (h2 : q3N x2 = some t2) (hg : Gl X "isinstance") (hm : X.mg "isinstance" = none)
  (g1 : Gl X x1) (m1 : X.mg x1 = none) (n1 : x1 ≠ "__name__") (d1 : (x1 == ("__debug__" : Str)) = false) (g2 : Gl X x2) (m2 : X.mg x2 = none) (n2 : x2 ≠ "__name__") (d2 : (x2 == ("__debug__" : Str)) = false)
  (hkf : ∀ d k, kf d = some k -> ∃ T, tyS d = some T /\ k = ((tyOf d).contains x1 || (tyOf d).contains x2))
  (ha : ∀ q, ra = some q -> PE X e (dE X.D E δ q)) (hs : q0y e = false) (h : (Re.thn ra λ y _ => (kf y).map λ k => .ok (.bl k) .strong) = some re) :
  PE X (.Call (.Name "isinstance" p) [e, .Tuple [.Name x1 p1, .Name x2 p2] kk tp] [] pos) (dE X.D E δ re) := by
 obtain ⟨b1, b2, b3⟩ := q5n h1
 obtain ⟨c1, c2, c3⟩ := q5n h2
 have T1 : PE X (.Name x1 p1) (tC (.ty t1)) := q5w g1 m1 b1 rfl n1 d1
 have T2 : PE X (.Name x2 p2) (tC (.ty t2)) := q5w g2 m2 c1 rfl n2 d2
 have TT := z2D (pos := tp) (x1 := kk) (q0Z T1 (q0Z T2 q3j))
 have C := λ ta (hA : PE X e ta) => q3l (p := p) (pos := pos) z0G hg hm boot_isinstance (q0Z hA (q0Z TT q3j) (q0p hs)) (by decide) (by decide) (q0p hs)
 cases hra : ra with
 | none => rw [hra] at h; cases h
 | some q =>
  rw [hra] at h
  have A := ha q hra
  cases q with
  | ex c => cases h; exact (C _ A).weak λ σ H Q ⟨O, W, R, p⟩ => ⟨O, W, R, p⟩
  | ok d cl =>
   obtain ⟨k, e1, e2⟩ := Option.map_eq_some_iff.mp (show ((kf d).map λ k => Re.ok (.bl k) .strong) = some re from h)
   cases e2
   obtain ⟨T, hT, hk⟩ := hkf d k e1
   have ek : k = (tyIs T t1 || tyIs T t2) := by rw [hk, z0h h1 hT, z0h h2 hT]; rfl
   exact (C _ A).weak λ σ H Q ⟨O, W, R, p⟩ => ⟨O, W, R, λ v H1 s1 g1 => ⟨show (2 : Nat) <= sizeLine by decide, λ q hq => ⟨d, T, t1, t2, v, q, rfl, (g1.all (R.hid.mono s1)).mono (q0u hq), hT, b2, c2, q0T, by rw [<- ek]; exact p _ _ (s1.trans (q0u hq)) q4v⟩⟩⟩
end
end L2
end
section
namespace L2
open PySem PySem.Spec PyProof.Rows
structure Wk (D : Dm) (J : It) (ds : List DV) (Oc Oi : List Addr) (H1 : Hp) : Prop where
 go : ∀ i H, Same (L2.wo Oc H1) (L2.wo Oc H) -> i < ds.length -> J.go i H
 same : ∀ i H x H', J.yld i H x H' -> Same H H'
 yld : ∀ i H x H' d O2, Same (L2.wo Oc H1) (L2.wo Oc H) -> Same (L2.wo Oi H1) (L2.wo Oi H) -> J.yld i H x H' -> ds[i]? = some d -> (∀ a ∈ O2, H a ≠ none /\ (a ∈ Oi \/ H1 a = none)) -> Rep D (L2.wo O2 H') d x
 stop : ∀ H, Same (L2.wo Oc H1) (L2.wo Oc H) -> J.stop ds.length H
noncomputable def hidW (O W : List Addr) : Cl -> List Addr
 | .top => O
 | .weak => O
 | _ => O ++ W
noncomputable def z6X (D : Dm) (E : St -> XK) (σ : St) (O W : List Addr) (H : Hp) (R : It -> Hp -> Prop) : Ri -> Prop
 | .ok ds c => ∀ J H', Same H H' -> Wk D J ds (hidW O W c) (q1N O W c) H' -> R J H'
 | .ex c => ∀ H' C, D.mg c = some C -> Same H H' -> E σ C none H'
noncomputable def dI (D : Dm) (E : St -> XK) (δ : List Sv) (r : Ri) : TI := λ σ H R => ∃ O W, RSt D H σ δ O W /\ z6X D E σ O W H R r
theorem PI.weak {X : Cx} {tg iter : Expr} {t t' : TI} (h : PI X tg iter t) (k : ∀ σ H R, t' σ H R -> t σ H R) : PI X tg iter t' := λ pins s σ H R I q => h pins s σ H R I (k σ H R q)
theorem z2n {O O2 : List Addr} {H1 H : Hp} (s : Same (L2.wo O H1) (L2.wo O H)) (h : ∀ a ∈ O2, H a ≠ none /\ (a ∈ O \/ H1 a = none)) : Same (L2.wo O H1) (L2.wo O2 H) := λ b o e => by
 have q := s b o e
 obtain ⟨hb, e⟩ := q1a e
 obtain ⟨_, q⟩ := q1a q
 rw [q0A λ z => ?_]
 ·exact q
 ·rcases (h b z).2 with w | w
  ·exact hb w
  ·rw [w] at e; cases e
theorem Wk.list {D : Dm} {ds : List DV} {Oc Oi : List Addr} {H1 : Hp} {a : Addr} {xs : List V} (h : SqL D.K (L2.wo Oc H1) a xs) (r : RepL D (L2.wo Oi H1) ds xs) : Wk D (Itl D.K a) ds Oc Oi H1 where
 go := λ i H s hi => ⟨xs, xs[i]'(by rw [r.length]; exact hi), q1G.seq (s.seq h), List.getElem?_eq_getElem _⟩
 same := λ i H x H' y => by rw [y.1]; exact Same.refl _
 yld := λ i H x H' d O2 s s' y e ho => by
  obtain ⟨e1, y⟩ := y
  subst e1
  obtain ⟨v, q1, q2⟩ := r.get e
  have := y xs (q1G.seq (s.seq h))
  rw [q1] at this; cases this
  exact q2.mono (z2n s' ho)
 stop := λ H s => ⟨xs, q1G.seq (s.seq h), by rw [r.length]; exact Nat.le_refl _⟩
theorem Wk.tup {D : Dm} {ds : List DV} {Oc Oi : List Addr} {H1 : Hp} {a : Addr} {xs : List V} (h : SqT D.K (L2.wo Oc H1) a xs) (r : RepL D (L2.wo Oi H1) ds xs) : Wk D (Itt D.K a) ds Oc Oi H1 where
 go := λ i H s hi => ⟨xs, xs[i]'(by rw [r.length]; exact hi), q1G.tseq (s.tseq h), List.getElem?_eq_getElem _⟩
 same := λ i H x H' y => by rw [y.1]; exact Same.refl _
 yld := λ i H x H' d O2 s s' y e ho => by
  obtain ⟨e1, y⟩ := y
  subst e1
  obtain ⟨v, q1, q2⟩ := r.get e
  have := y xs (q1G.tseq (s.tseq h))
  rw [q1] at this; cases this
  exact q2.mono (z2n s' ho)
 stop := λ H s => ⟨xs, q1G.tseq (s.tseq h), by rw [r.length]; exact Nat.le_refl _⟩
theorem q2Y (lo : Int) (n : Nat) : (upTo lo n).length = n := by unfold upTo; rw [List.length_map, List.length_range]
theorem z0X {lo : Int} {n i : Nat} {d : DV} (h : (upTo lo n)[i]? = some d) : i < n /\ d = .int (lo + i) := by
 have hl : i < n := by have := (List.getElem?_eq_some_iff.mp h).1; rw [q2Y] at this; exact this
 unfold upTo at h
 rw [List.getElem?_map, List.getElem?_range hl] at h
 cases h
 exact ⟨hl, rfl⟩
theorem Wk.range {D : Dm} {Oc Oi : List Addr} {H1 : Hp} (lo : Int) (n : Nat) : Wk D (Itr lo n) (upTo lo n) Oc Oi H1 where
 go := λ i H s hi => by rw [q2Y] at hi; exact hi
 same := λ i H x H' y => by rw [y.1]; exact Same.refl _
 yld := λ i H x H' d O2 s s' y e ho => by
  obtain ⟨e1, y⟩ := y
  subst e1
  obtain ⟨_, e2⟩ := z0X e
  subst e2
  exact q0O.mpr y
 stop := λ H s => by rw [q2Y]; exact Nat.le_refl _
theorem q2n (hi : Int) (n : Nat) : (q5a hi n).length = n := by unfold q5a; rw [List.length_map, List.length_range]
theorem q8U {hi : Int} {n i : Nat} {d : DV} (h : (q5a hi n)[i]? = some d) : i < n /\ d = .int (hi - i) := by
 have hl : i < n := by have := (List.getElem?_eq_some_iff.mp h).1; rw [q2n] at this; exact this
 unfold q5a at h
 rw [List.getElem?_map, List.getElem?_range hl] at h
 cases h
 exact ⟨hl, rfl⟩
theorem Wk.down {D : Dm} {Oc Oi : List Addr} {H1 : Hp} (hi : Int) (n : Nat) : Wk D (Itd hi n) (q5a hi n) Oc Oi H1 where
 go := λ i H s h => by rw [q2n] at h; exact h
 same := λ i H x H' y => by rw [y.1]; exact Same.refl _
 yld := λ i H x H' d O2 s s' y e ho => by
  obtain ⟨e1, y⟩ := y
  subst e1
  obtain ⟨_, e2⟩ := q8U e
  subst e2
  exact q0O.mpr y
 stop := λ H s => by rw [q2n]; exact Nat.le_refl _
section
variable {X : Cx} {E : St -> XK} {δ : List Sv} {tg e e' : Expr} {es : List Expr} {pos p : Pos} {ra rb : Option Re} {rs : Option Rs} {ri : Ri}
theorem Got.walkL {D : Dm} {O W : List Addr} {H0 H : Hp} {ds : List DV} {c : Cl} {v : V} (g : Got D O W H0 H (.lst ds) c v) (hd : Hid O W H0 H) : ∃ a xs, v = .ref a /\ SqL D.K (L2.wo (hidW O W c) H) a xs /\ RepL D (L2.wo (q1N O W c) H) ds xs := by
 cases c with
 | weak => obtain ⟨a, xs, e1, e2, e3⟩ := q0B.mp g; exact ⟨a, xs, e1, SqL.of e2, e3⟩
 | top => obtain ⟨a, xs, e1, e0, e2, e3⟩ := g; exact ⟨a, xs, e1, SqL.of e2, e3⟩
 | strong => obtain ⟨a, xs, e1, e2, e3⟩ := q0B.mp g; exact ⟨a, xs, e1, SqL.of e2, e3⟩
 | fresh => obtain ⟨a, xs, e1, e2, e3⟩ := q0B.mp (g.strong hd); exact ⟨a, xs, e1, SqL.of e2, e3⟩
 | ft => obtain ⟨a, xs, e1, e2, e3⟩ := q0B.mp (g.ft hd); exact ⟨a, xs, e1, SqL.of e2, e3⟩
theorem Got.walkT {D : Dm} {O W : List Addr} {H0 H : Hp} {ds : List DV} {c : Cl} {v : V} (g : Got D O W H0 H (.tup ds) c v) (hd : Hid O W H0 H) : ∃ a xs, v = .ref a /\ SqT D.K (L2.wo (hidW O W c) H) a xs /\ RepL D (L2.wo (q1N O W c) H) ds xs := by
 cases c with
 | weak => exact q0J.mp g
 | top =>
  obtain ⟨a, xs, e1, e2, e3⟩ := q0J.mp (show Rep D (L2.wo (O ++ W) H) (.tup ds) v from g)
  exact ⟨a, xs, e1, (q0R q5Y).tseq e2, e3⟩
 | strong => exact q0J.mp g
 | fresh => obtain ⟨_, _, _, _, q, _⟩ := g; cases q
 | ft => exact q0J.mp (g.ft hd)
theorem Got.walkS {D : Dm} {O W : List Addr} {H0 H : Hp} {ns : List Int} {c : Cl} {v : V} (g : Got D O W H0 H (.scr ns) c v) (hd : Hid O W H0 H) : ∃ a, v = .ref a /\ SqL D.K (L2.wo (hidW O W c) H) a (ns.map V.int) := by
 cases c with
 | weak => obtain ⟨a, e1, e2⟩ := q1V.mp g; exact ⟨a, e1, e2.sq⟩
 | top => obtain ⟨a, e1, e2⟩ := q1V.mp (show Rep D (L2.wo (O ++ W) H) (.scr ns) v from g); exact ⟨a, e1, (q0R q5Y).seq e2.sq⟩
 | strong => obtain ⟨a, e1, e2⟩ := q1V.mp g; exact ⟨a, e1, e2.sq⟩
 | fresh => obtain ⟨_, _, _, _, q, _⟩ := g; cases q
 | ft => obtain ⟨a, e1, e2⟩ := q1V.mp (g.ft hd); exact ⟨a, e1, e2.sq⟩
theorem q8g (ha : ∀ q, ra = some q -> PE X e (dE X.D E δ q)) (h : q0L ra = some ri) : PI X tg e (dI X.D E δ ri) := by
 cases hra : ra with
 | none => rw [hra] at h; cases h
 | some q =>
  rw [hra] at h
  have A := ha q hra
  cases q with
  | ex c => cases h; exact (q7l A).weak λ σ H R' ⟨O, W, R, p⟩ => ⟨O, W, R, p⟩
  | ok d c =>
   obtain ⟨ds, e1, e2⟩ := Option.map_eq_some_iff.mp (show ((seqD d).map λ ds => Ri.ok ds c) = some ri from h)
   cases e2
   unfold seqD at e1
   split at e1
   ·cases e1
    exact (q7l A).weak λ σ H R' ⟨O, W, R, p⟩ => ⟨O, W, R, λ v H1 s1 g1 => by
     obtain ⟨a, e1, e2⟩ := g1.walkS (R.hid.mono s1)
     exact ⟨a, e1, ⟨_, q1G.seq e2⟩, p _ H1 s1 (.list e2 (q2b _))⟩⟩
   ·cases e1
    exact (q7l A).weak λ σ H R' ⟨O, W, R, p⟩ => ⟨O, W, R, λ v H1 s1 g1 => by
     obtain ⟨a, xs, e1, e2, e3⟩ := g1.walkL (R.hid.mono s1)
     exact ⟨a, e1, ⟨xs, q1G.seq e2⟩, p _ H1 s1 (.list e2 e3)⟩⟩
   ·cases e1
    exact (z6h A).weak λ σ H R' ⟨O, W, R, p⟩ => ⟨O, W, R, λ v H1 s1 g1 => by
     obtain ⟨a, xs, e1, e2, e3⟩ := g1.walkT (R.hid.mono s1)
     exact ⟨a, e1, ⟨xs, q1G.tseq e2⟩, p _ H1 s1 (.tup e2 e3)⟩⟩
   ·cases e1
theorem q1X {i : Int} (h : q1k i = true) : -(2 ^ 62) <= i /\ i < 2 ^ 62 := by
 unfold q1k at h
 simpa [Bool.and_eq_true] using h
theorem q5r {o : Option (List DV)} {ri : Ri} (h : q0L (o.map λ ds => Re.ok (.lst ds) .fresh) = some ri) : ∃ ds, o = some ds /\ ri = .ok ds .fresh := by
 cases o with
 | none => cases h
 | some ds => cases h; exact ⟨ds, rfl, rfl⟩
theorem q8Q (hg : Gl X "range") (hm : X.mg "range" = none) (ha : ∀ q, rs = some q -> PA X [e] (dA X.D E δ q)) (hs : q0y e = false) (h : q0L (Rs.thn rs λ l => (rngD l).map λ ds => Re.ok (.lst ds) .fresh) = some ri) (hl : ∀ l, rs = some (.ok l) -> l.length = 1) :
  PI X tg (.Call (.Name "range" p) [e] [] pos) (dI X.D E δ ri) := by
 have C := λ t (hA : PA X [e] t) => z0l (tg := tg) (p := p) (pos := pos) hg hm hA (q0p hs)
 cases hrs : rs with
 | none => rw [hrs] at h; cases h
 | some q =>
  rw [hrs] at h
  have A := ha q hrs
  cases q with
  | ex c => cases h; exact (C _ A).weak λ σ H R' ⟨O, W, R, p⟩ => ⟨O, W, R, p⟩
  | ok l =>
   have l1 := hl l hrs
   obtain ⟨ds, e1, e2⟩ := q5r (show q0L ((rngD l).map λ ds => Re.ok (.lst ds) .fresh) = some ri from h)
   cases e2
   unfold rngD at e1
   split at e1
   ·rename_i j c
    split at e1
    ·rename_i m
     cases e1
     rw [Bool.and_eq_true] at m
     have q := q1X m.1
     exact (C _ A).weak λ σ H R' ⟨O, W, R, p⟩ => ⟨O, W, R, λ vs H1 s1 g1 => by
      obtain ⟨v, rfl, gv⟩ := g1.one
      exact ⟨j, by rw [gv.int (R.hid.mono s1)], q.1, q.2, p _ H1 s1 (.range _ _)⟩⟩
    ·cases e1
   ·cases l1
   ·cases l1
   ·cases e1
theorem q8z (hg : Gl X "range") (hm : X.mg "range" = none) (ha : ∀ q, rs = some q -> PA X [e, e'] (dA X.D E δ q)) (hs : q0y e = false) (hs' : q0y e' = false) (h : q0L (Rs.thn rs λ l => (rngD l).map λ ds => Re.ok (.lst ds) .fresh) = some ri) (hl : ∀ l, rs = some (.ok l) -> l.length = 2) :
  PI X tg (.Call (.Name "range" p) [e, e'] [] pos) (dI X.D E δ ri) := by
 have C := λ t (hA : PA X [e, e'] t) => z0B (tg := tg) (p := p) (pos := pos) hg hm hA (by rw [q0p hs, q0p hs']; rfl) (q0p hs')
 cases hrs : rs with
 | none => rw [hrs] at h; cases h
 | some q =>
  rw [hrs] at h
  have A := ha q hrs
  cases q with
  | ex c => cases h; exact (C _ A).weak λ σ H R' ⟨O, W, R, p⟩ => ⟨O, W, R, p⟩
  | ok l =>
   have l1 := hl l hrs
   obtain ⟨ds, e1, e2⟩ := q5r (show q0L ((rngD l).map λ ds => Re.ok (.lst ds) .fresh) = some ri from h)
   cases e2
   unfold rngD at e1
   split at e1
   ·cases l1
   ·rename_i i c j c'
    split at e1
    ·rename_i m
     cases e1
     rw [Bool.and_eq_true, Bool.and_eq_true] at m
     have q := q1X m.1.1
     have q' := q1X m.1.2
     exact (C _ A).weak λ σ H R' ⟨O, W, R, p⟩ => ⟨O, W, R, λ vs H1 s1 g1 => by
      obtain ⟨v, v', rfl, gv, gv'⟩ := g1.two
      exact ⟨i, j, by rw [gv.int (R.hid.mono s1), gv'.int (R.hid.mono s1)], ⟨q.1, q.2, q'.1, q'.2⟩, p _ H1 s1 (.range _ _)⟩⟩
    ·cases e1
   ·cases l1
   ·cases e1
theorem q8S {e'' : Expr} (hg : Gl X "range") (hm : X.mg "range" = none) (ha : ∀ q, rs = some q -> PA X [e, e', e''] (dA X.D E δ q)) (hs : q0y e = false) (hs' : q0y e' = false) (hs'' : q0y e'' = false) (h : q0L (Rs.thn rs λ l => (rngD l).map λ ds => Re.ok (.lst ds) .fresh) = some ri) (hl : ∀ l, rs = some (.ok l) -> l.length = 3) :
  PI X tg (.Call (.Name "range" p) [e, e', e''] [] pos) (dI X.D E δ ri) := by
 have C := λ t (hA : PA X [e, e', e''] t) => q9t (tg := tg) (p := p) (pos := pos) hg hm hA (by rw [q0p hs, q0p hs', q0p hs'']; rfl) (by rw [q0p hs', q0p hs'']; rfl)
 cases hrs : rs with
 | none => rw [hrs] at h; cases h
 | some q =>
  rw [hrs] at h
  have A := ha q hrs
  cases q with
  | ex c => cases h; exact (C _ A).weak λ σ H R' ⟨O, W, R, p⟩ => ⟨O, W, R, p⟩
  | ok l =>
   have l1 := hl l hrs
   obtain ⟨ds, e1, e2⟩ := q5r (show q0L ((rngD l).map λ ds => Re.ok (.lst ds) .fresh) = some ri from h)
   cases e2
   unfold rngD at e1
   split at e1
   ·cases l1
   ·cases l1
   ·rename_i i c j c' k c''
    split at e1
    ·rename_i m
     cases e1
     rw [Bool.and_eq_true, Bool.and_eq_true, Bool.and_eq_true, decide_eq_true_eq, decide_eq_true_eq] at m
     have q := q1X m.1.1.1
     have q' := q1X m.1.1.2
     have k1 := m.2
     subst k1
     exact (C _ A).weak λ σ H R' ⟨O, W, R, p⟩ => ⟨O, W, R, λ vs H1 s1 g1 => by
      obtain ⟨v, v', v'', rfl, gv, gv', gv''⟩ := g1.three
      exact ⟨i, j, by rw [gv.int (R.hid.mono s1), gv'.int (R.hid.mono s1), gv''.int (R.hid.mono s1)], ⟨q.1, q.2, q'.1, q'.2⟩, p _ H1 s1 (.down _ _)⟩⟩
    ·cases e1
   ·cases e1
end
noncomputable def q7v : List Nat -> TGs
 | [] => gNil
 | i :: is => z5t (q8E i) (q7v is)
noncomputable def gT (K : PySem.W.Frag) : Tg -> TG
 | .one i => q8E i
 | .many is => gTup K is.length (q7v is)
theorem RSt.setVal {D : Dm} {H : Hp} {σ : St} {δ : List Sv} {O W : List Addr} {v : V} {d : DV} (R : RSt D H σ δ O W) (r : Rep D (L2.wo (O ++ W) H) d v) (i : Nat) : RSt D H (σ.set i (some v)) (δ.set i (.val d)) O W where
 val := λ j d' h => by
  by_cases hj : j = i
  ·subst hj
   have hl : j < δ.length := by
    have := (List.getElem?_eq_some_iff.mp h).1
    rw [List.length_set] at this; exact this
   rw [List.getElem?_set_self hl] at h
   cases h
   exact ⟨v, List.getElem?_set_self (by rw [R.len]; exact hl), r⟩
  ·rw [List.getElem?_set_ne (Ne.symm hj)] at h ⊢
   exact R.val j d' h
 own := λ j ds' h => by
  by_cases hj : j = i
  ·subst hj
   have hl : j < δ.length := by
    have := (List.getElem?_eq_some_iff.mp h).1
    rw [List.length_set] at this; exact this
   rw [List.getElem?_set_self hl] at h
   cases h
  ·rw [List.getElem?_set_ne (Ne.symm hj)] at h ⊢
   exact R.own j ds' h
 inj := λ j k a d1 d2 h1 h2 e1 e2 => by
  have ne : ∀ {j : Nat} {d1 : DV}, (δ.set i (.val d))[j]? = some (.own d1) -> j ≠ i := λ {j d1} h1 z => by
   subst z
   have hl : j < δ.length := by
    have := (List.getElem?_eq_some_iff.mp h1).1
    rw [List.length_set] at this; exact this
   rw [List.getElem?_set_self hl] at h1
   cases h1
  have n1 := ne h1
  have n2 := ne h2
  rw [List.getElem?_set_ne (Ne.symm n1)] at h1 e1
  rw [List.getElem?_set_ne (Ne.symm n2)] at h2 e2
  exact R.inj j k a d1 d2 h1 h2 e1 e2
 ot := λ j d' h => by
  have ne : ∀ {j : Nat} {s : Sv}, (∀ d, s ≠ .val d) -> (δ.set i (.val d))[j]? = some s -> j ≠ i := λ {j s} hs h1 z => by
   subst z
   have hl : j < δ.length := by
    have := (List.getElem?_eq_some_iff.mp h1).1
    rw [List.length_set] at this; exact this
   rw [List.getElem?_set_self hl] at h1
   cases h1
   exact hs _ rfl
  have nj := ne (by intro d z; cases z) h
  rw [List.getElem?_set_ne (Ne.symm nj)] at h ⊢
  obtain ⟨⟨t, ts, p, xs, ds, es, e0, e1, e2, e3, e4, e5, e6, e7⟩, u⟩ := R.ot j d' h
  refine ⟨⟨t, ts, p, xs, ds, es, e0, e1, e2, e3, e4, e5, e6, λ k d2 q => ?_⟩, λ k d2 q => ?_⟩
  ·have nk := ne (by intro d z; cases z) q
   rw [List.getElem?_set_ne (Ne.symm nk)] at q ⊢
   exact e7 k d2 q
  ·have nk := ne (by intro d z; cases z) q
   rw [List.getElem?_set_ne (Ne.symm nk)] at q
   exact u k d2 q
 o2 := λ j d' h => by
  have ne : ∀ {j : Nat} {s : Sv}, (∀ d, s ≠ .val d) -> (δ.set i (.val d))[j]? = some s -> j ≠ i := λ {j s} hs h1 z => by
   subst z
   have hl : j < δ.length := by
    have := (List.getElem?_eq_some_iff.mp h1).1
    rw [List.length_set] at this; exact this
   rw [List.getElem?_set_self hl] at h1
   cases h1
   exact hs _ rfl
  have nj := ne (by intro d z; cases z) h
  rw [List.getElem?_set_ne (Ne.symm nj)] at h ⊢
  obtain ⟨⟨p, L, e0, e1, e2, e3⟩, u, n⟩ := R.o2 j d' h
  refine ⟨⟨p, L, e0, e1, e2, λ k d2 a q q2 => ?_⟩, λ k d2 q => ?_, λ k d2 q => ?_⟩
  ·have nk := ne (by intro d z; cases z) q
   rw [List.getElem?_set_ne (Ne.symm nk)] at q q2
   exact e3 k d2 a q q2
  ·have nk := ne (by intro d z; cases z) q
   rw [List.getElem?_set_ne (Ne.symm nk)] at q
   exact u k d2 q
  ·have nk := ne (by intro d z; cases z) q
   rw [List.getElem?_set_ne (Ne.symm nk)] at q
   exact n k d2 q
 len := by rw [List.length_set, List.length_set]; exact R.len
 hid := R.hid
theorem q6F {D : Dm} {H : Hp} {O W : List Addr} {Q : St -> Hp -> Prop} : ∀ {is : List Nat} {ds : List DV} {xs : List V} {σ : St} {δ δ' : List Sv}, RSt D H σ δ O W -> RepL D (L2.wo (O ++ W) H) ds xs -> q5c δ is ds = some δ' -> (∀ σ', RSt D H σ' δ' O W -> Q σ' H) -> q7v is xs σ H Q
 | [], [], xs, σ, δ, δ', R, r, h, q => by cases h; exact ⟨q0z.mp r, q σ R⟩
 | i :: is, d :: ds, xs, σ, δ, δ', R, r, h, q => by
  obtain ⟨v, vs, e1, e2, e3⟩ := q0k.mp r
  exact ⟨v, vs, e1, q6F (R.setVal e2 i) e3 h q⟩
 | [], _ :: _, _, _, _, _, _, _, h, _ => by cases h
 | _ :: _, [], _, _, _, _, _, _, h, _ => by cases h
theorem q2r : ∀ {is : List Nat} {ds : List DV} {δ δ' : List Sv}, q5c δ is ds = some δ' -> is.length = ds.length /\ δ'.length = δ.length
 | [], [], _, _, h => by cases h; exact ⟨rfl, rfl⟩
 | i :: is, d :: ds, δ, δ', h => by
  obtain ⟨a, b⟩ := q2r (is := is) h
  exact ⟨by rw [List.length_cons, List.length_cons, a], by rw [b, List.length_set]⟩
 | [], _ :: _, _, _, h => by cases h
 | _ :: _, [], _, _, h => by cases h
theorem q6R {D : Dm} {H : Hp} {O W : List Addr} {Q : St -> Hp -> Prop} {tg : Tg} {d : DV} {x : V} {σ : St} {δ δ' : List Sv} (R : RSt D H σ δ O W) (r : Rep D (L2.wo (O ++ W) H) d x) (h : tg.bind d δ = some δ') (q : ∀ σ', RSt D H σ' δ' O W -> Q σ' H) : gT D.K tg x σ H Q := by
 cases tg with
 | one i => cases h; exact q _ (R.setVal r i)
 | many is =>
  unfold Tg.bind at h
  dsimp only at h
  split at h
  ·rename_i ds
   obtain ⟨a, xs, e1, e2, e3⟩ := q0J.mp r
   exact ⟨a, xs, e1, q1G.tseq e2, by rw [e3.length, (q2r h).1], q6F R e3 h q⟩
  ·cases h
theorem RSt.less {D : Dm} {H : Hp} {σ : St} {δ δ' : List Sv} {O W : List Addr} (R : RSt D H σ δ' O W) (hl : δ.length = δ'.length) (h : ∀ (i : Nat) sv, δ[i]? = some sv -> sv = .no \/ δ'[i]? = some sv) : RSt D H σ δ O W where
 val := λ i d e => by
  rcases h i _ e with z | z
  ·cases z
  ·exact R.val i d z
 own := λ i d e => by
  rcases h i _ e with z | z
  ·cases z
  ·exact R.own i d z
 inj := λ i j a d d' e e' => by
  rcases h i _ e with z | z
  ·cases z
  ·rcases h j _ e' with y | y
   ·cases y
   ·exact R.inj i j a d d' z y
 ot := λ i d e => by
  rcases h i _ e with z | z
  ·cases z
  ·obtain ⟨⟨t, ts, p, xs, ds, es, e0, e1, e2, e3, e4, e5, e6, e7⟩, u⟩ := R.ot i d z
   refine ⟨⟨t, ts, p, xs, ds, es, e0, e1, e2, e3, e4, e5, e6, λ k d2 q => ?_⟩, λ k d2 q => ?_⟩
   ·rcases h k _ q with y | y
    ·cases y
    ·exact e7 k d2 y
   ·rcases h k _ q with y | y
    ·cases y
    ·exact u k d2 y
 o2 := λ i d e => by
  rcases h i _ e with z | z
  ·cases z
  ·obtain ⟨⟨p, L, e0, e1, e2, e3⟩, u, n⟩ := R.o2 i d z
   refine ⟨⟨p, L, e0, e1, e2, λ k d2 a q q2 => ?_⟩, λ k d2 q => ?_, λ k d2 q => ?_⟩
   ·rcases h k _ q with y | y
    ·cases y
    ·exact e3 k d2 a y q2
   ·rcases h k _ q with y | y
    ·cases y
    ·exact u k d2 y
   ·rcases h k _ q with y | y
    ·cases y
    ·exact n k d2 y
 len := by rw [hl]; exact R.len
 hid := R.hid
theorem q7s : ∀ {is : List Nat} {ds : List DV} {δ δ' : List Sv}, q5c δ is ds = some δ' -> (∀ i ∈ is, δ[i]? = some .no \/ δ[i]? = none) -> ∀ (i : Nat) sv, δ[i]? = some sv -> sv = .no \/ δ'[i]? = some sv
 | [], [], _, _, h, _, i, sv, e => by cases h; exact .inr e
 | j :: is, d :: ds, δ, δ', h, hn, i, sv, e => by
  by_cases hij : i ∈ j :: is
  ·rcases hn i hij with z | z
   ·rw [z] at e; cases e; exact .inl rfl
   ·rw [z] at e; cases e
  ·have hne : j ≠ i := λ z => hij (by rw [z]; exact List.mem_cons_self)
   have hni : i ∉ is := λ z => hij (List.mem_cons_of_mem _ z)
   have key : ∀ {is : List Nat} {ds : List DV} {δ δ' : List Sv}, q5c δ is ds = some δ' -> i ∉ is -> δ[i]? = some sv -> δ'[i]? = some sv := by
    intro is
    induction is with
    | nil => intro ds δ δ' h _ e; cases ds with
     | nil => cases h; exact e
     | cons _ _ => cases h
    | cons k is ih => intro ds δ δ' h hi e; cases ds with
     | nil => cases h
     | cons d ds =>
      refine ih h (λ z => hi (List.mem_cons_of_mem _ z)) ?_
      rw [List.getElem?_set_ne (λ z => hi (by rw [z]; exact List.mem_cons_self))]
      exact e
   exact .inr (key h hij e)
 | [], _ :: _, _, _, h, _, _, _, _ => by cases h
 | _ :: _, [], _, _, h, _, _, _, _ => by cases h
theorem q6g {tg : Tg} {d : DV} {δ δ' : List Sv} (h : tg.bind d δ = some δ') (hn : ∀ i ∈ q2V tg, δ[i]? = some .no \/ δ[i]? = none) : δ.length = δ'.length /\ ∀ (i : Nat) sv, δ[i]? = some sv -> sv = .no \/ δ'[i]? = some sv := by
 cases tg with
 | one j =>
  cases h
  refine ⟨(List.length_set ..).symm, λ i sv e => ?_⟩
  by_cases hij : i = j
  ·subst hij
   rcases hn i (by simp [q2V]) with z | z
   ·rw [z] at e; cases e; exact .inl rfl
   ·rw [z] at e; cases e
  ·exact .inr (by rw [List.getElem?_set_ne (Ne.symm hij)]; exact e)
 | many is =>
  unfold Tg.bind at h
  dsimp only at h
  split at h
  ·exact ⟨(q2r h).2.symm, q7s h hn⟩
  ·cases h
theorem RSt.inner {D : Dm} {H : Hp} {σ : St} {δ : List Sv} {O W : List Addr} (R : RSt D H σ δ O W) (fr : List (Option Nat)) (hnd : ∀ (j k i : Nat), fr[j]? = some (some i) -> fr[k]? = some (some i) -> j = k) : RSt D H (L2.inner fr σ) (q0s fr δ) O W := by
 have look : ∀ (j : Nat) sv, (q0s fr δ)[j]? = some sv -> sv ≠ .no -> ∃ i, fr[j]? = some (some i) /\ δ[i]? = some sv := λ j sv h hn => by
  unfold q0s at h
  rw [List.getElem?_map] at h
  cases q : fr[j]? with
  | none => rw [q] at h; cases h
  | some o =>
   rw [q] at h
   cases o with
   | none => cases h; exact absurd rfl hn
   | some i =>
    refine ⟨i, rfl, ?_⟩
    have h' : (δ.getD i .no).plain = sv := by simpa using h
    rw [List.getD_eq_getElem?_getD] at h'
    cases z : δ[i]? with
    | none => rw [z] at h'; exact absurd h'.symm hn
    | some sv' =>
     rw [z] at h'
     cases sv' with
     | ot d => exact absurd h'.symm hn
     | o2 d => exact absurd h'.symm hn
     | no => exact congrArg some h'
     | val d => exact congrArg some h'
     | own d => exact congrArg some h'
 have sig : ∀ (j i : Nat) (v : V), fr[j]? = some (some i) -> σ[i]? = some (some v) -> (L2.inner fr σ)[j]? = some (some v) := λ j i v q e => by
  unfold L2.inner
  rw [List.getElem?_map, q]
  simp [e]
 have noot : ∀ (j : Nat) d, (q0s fr δ)[j]? ≠ some (.ot d) := λ j d h => by
  unfold q0s at h
  rw [List.getElem?_map] at h
  cases q : fr[j]? with
  | none => rw [q] at h; cases h
  | some o =>
   rw [q] at h
   cases o with
   | none => cases h
   | some i =>
    have h' : (δ.getD i .no).plain = .ot d := by simpa using h
    cases z : δ.getD i .no with
    | ot d2 => rw [z] at h'; cases h'
    | o2 d2 => rw [z] at h'; cases h'
    | no => rw [z] at h'; cases h'
    | val d2 => rw [z] at h'; cases h'
    | own d2 => rw [z] at h'; cases h'
 have noo2 : ∀ (j : Nat) d, (q0s fr δ)[j]? ≠ some (.o2 d) := λ j d h => by
  unfold q0s at h
  rw [List.getElem?_map] at h
  cases q : fr[j]? with
  | none => rw [q] at h; cases h
  | some o =>
   rw [q] at h
   cases o with
   | none => cases h
   | some i =>
    have h' : (δ.getD i .no).plain = .o2 d := by simpa using h
    cases z : δ.getD i .no with
    | ot d2 => rw [z] at h'; cases h'
    | o2 d2 => rw [z] at h'; cases h'
    | no => rw [z] at h'; cases h'
    | val d2 => rw [z] at h'; cases h'
    | own d2 => rw [z] at h'; cases h'
 refine ⟨λ j d h => ?_, λ j d h => ?_, λ j k a d d' h1 h2 e1 e2 => ?_, λ j d h => absurd h (noot j d), λ j d h => absurd h (noo2 j d), ?_, R.hid⟩
 ·obtain ⟨i, q1, q2⟩ := look j _ h (by intro z; cases z)
  obtain ⟨v, e1, e2⟩ := R.val i d q2
  exact ⟨v, sig j i v q1 e1, e2⟩
 ·obtain ⟨i, q1, q2⟩ := look j _ h (by intro z; cases z)
  obtain ⟨a, xs, ds, e0, e1, e2⟩ := R.own i d q2
  exact ⟨a, xs, ds, e0, sig j i _ q1 e1, e2⟩
 ·obtain ⟨i, q1, q2⟩ := look j _ h1 (by intro z; cases z)
  obtain ⟨i', q1', q2'⟩ := look k _ h2 (by intro z; cases z)
  obtain ⟨b, xs, ds, _, z1, _⟩ := R.own i d q2
  obtain ⟨b', xs', ds', _, z1', _⟩ := R.own i' d' q2'
  have y := sig j i _ q1 z1
  have y' := sig k i' _ q1' z1'
  rw [e1] at y
  rw [e2] at y'
  cases y
  cases y'
  have := R.inj i i' a d d' q2 q2' z1 z1'
  subst this
  exact hnd j k i q1 q1'
 ·unfold L2.inner q0s; rw [List.length_map, List.length_map]
section
variable {X : Cx} {E : St -> XK} {δ : List Sv} {iter elt tgE : Expr} {ifs : List Expr} {pos : Pos} {N' : List Str} {scope : Scope} {fr : List (Option Nat)} {tg : Tg} {ri : Option Ri} {re : Re}
theorem q5i {D : Dm} {J : It} {ds : List DV} {O W : List Addr} {H H1 : Hp} {σ : St} {c : Cl} {g : DV -> Option Rc} {xs : List DV} {tc : TT} {te : TE} {δ0 : List Sv} {Q : VK} (w : Wk D J ds (hidW O W c) (q1N O W c) H1) (hd0 : Hid O W H H) (hc : c ≠ .weak) (R : RSt D H1 σ δ0 O W)
  (hn : ∀ i ∈ q2V tg, δ0[i]? = some .no \/ δ0[i]? = none) (hz : ds.length <= sizeLine) (hx : q0E g ds = some xs) (s1 : Same H H1)
  (step : ∀ d rc, d ∈ ds -> g d = some rc -> ∃ δ', tg.bind d δ0 = some δ' /\ ∀ σ' H2, Same H1 H2 -> RSt D H2 σ' δ' O W -> ∀ K : Bool -> Hp -> Prop, (rc = .skip -> ∀ H3, Same H2 H3 -> K false H3) -> (∀ x, rc = .item x -> ∀ H3, Same H2 H3 -> K true H3) -> tc σ' H2 K)
  (stepE : ∀ d x, d ∈ ds -> g d = some (.item x) -> ∀ δ', tg.bind d δ0 = some δ' -> ∀ σ' H2, Same H1 H2 -> RSt D H2 σ' δ' O W -> ∀ K : VK, (∀ v H3, Same H2 H3 -> Rep D (L2.wo (O ++ W) H3) x v -> K v H3) -> te σ' H2 K)
  (fin : ∀ v H', Same H H' -> Got D O W H H' (.lst xs) .fresh v -> Q v H') :
  z2Y J (gT D.K tg) tc te (λ ys H' => ∀ p, H' p = none -> Q (.ref p) (upd H' p (.lst ys))) σ H1 := by
 have ci : q1N O W c = O ++ W := by cases c <;> first | rfl | exact absurd rfl hc
 rw [ci] at w
 refine ⟨λ i n ys σ' H' => n = ds.length - i /\ i <= ds.length /\ ys.length <= i /\ RSt D H' σ' δ0 O W /\ Same H1 H' /\ ∃ done rest, q0E g (ds.drop i) = some rest /\ done ++ rest = xs /\ RepL D (L2.wo (O ++ W) H') done ys,
  ⟨ds.length, rfl, Nat.zero_le _, Nat.zero_le _, R, Same.refl _, [], xs, hx, rfl, q0z.mpr rfl⟩, ?_⟩
 rintro i n ys σ2 H2 ⟨rfl, hi', hy, R2, s2, done, rest, h1, h2, r2⟩
 by_cases hlt : i < ds.length
 ·refine .inr ⟨w.go i H2 s2.wo hlt, Nat.lt_of_le_of_lt hy (Nat.lt_of_lt_of_le hlt hz), λ x' H3 y => ?_⟩
  have y1 := w.same i H2 x' H3 y
  have y3 : Rep D (L2.wo (O ++ W) H3) ds[i] x' := w.yld i H2 x' H3 _ (O ++ W) s2.wo s2.wo y (List.getElem?_eq_getElem hlt) λ a ha => ⟨R2.hid.ot a ha, .inl ha⟩
  rw [List.drop_eq_getElem_cons hlt] at h1
  have hm : ds[i] ∈ ds := List.getElem_mem hlt
  unfold q0E at h1
  split at h1
  ·cases h1
  ·rename_i q
   obtain ⟨δ', b1, b2⟩ := step _ _ hm q
   refine q6R (R2.mono y1) y3 b1 λ σ3 R3 => ?_
   have back := q6g b1 hn
   refine b2 σ3 H3 (s2.trans y1) R3 _ (λ _ H4 s4 => ?_) (λ x z => nomatch z)
   show if false = true then _ else _
   rw [if_neg Bool.false_ne_true]
   exact ⟨ds.length - (i + 1), by omega, rfl, hlt, Nat.le_succ_of_le hy, (R3.less back.1 back.2).mono s4, (s2.trans y1).trans s4, done, rest, h1, h2, r2.mono (y1.trans s4).wo⟩
  ·rename_i x q
   split at h1
   ·cases h1
   ·rename_i rest' q'
    cases h1
    obtain ⟨δ', b1, b2⟩ := step _ _ hm q
    refine q6R (R2.mono y1) y3 b1 λ σ3 R3 => ?_
    have back := q6g b1 hn
    refine b2 σ3 H3 (s2.trans y1) R3 _ (λ z => nomatch z) (λ x' z H4 s4 => ?_)
    cases z
    show if true = true then _ else _
    rw [if_pos rfl]
    refine stepE _ x hm q δ' b1 σ3 H4 ((s2.trans y1).trans s4) (R3.mono s4) _ λ v H5 s5 rv => ?_
    exact ⟨ds.length - (i + 1), by omega, rfl, hlt, by rw [List.length_append, List.length_singleton]; omega, (R3.less back.1 back.2).mono (s4.trans s5), ((s2.trans y1).trans s4).trans s5, done ++ [x], rest', q', by rw [List.append_assoc]; exact h2,
     (r2.mono ((y1.trans s4).trans s5).wo).append (RepL.one rv)⟩
 ·have e : i = ds.length := by omega
  subst e
  rw [List.drop_length] at h1
  cases h1
  rw [List.append_nil] at h2
  subst h2
  have s0 := s1.trans s2
  refine .inl ⟨w.stop H2 s2.wo, λ p hp => fin _ _ (s0.trans (q0u hp)) ?_⟩
  have hd : Hid O W H H2 := hd0.mono s0
  exact q1W hd hp r2
noncomputable abbrev E0s : St -> XK := λ _ _ _ _ => False
theorem PE.any {Y : Cx} {e : Expr} {ι : Sort _} {t : ι -> TE} (h : ∀ k, PE Y e (t k)) : PE Y e (λ σ H Q => ∃ k, t k σ H Q) := λ pins s σ H Q I ⟨k, q⟩ => h k pins s σ H Q I q
theorem PTs.any {Y : Cx} {ι : Sort _} {es : List Expr} {t : ι -> TT} (h : ∀ k, PTs Y es (t k)) : PTs Y es (λ σ H Q => ∃ k, t k σ H Q) := λ pins s σ H Q I ⟨k, q⟩ => h k pins s σ H Q I q
theorem Rc.of_item {r : Option Re} {x : DV} (h : Rc.of r = some (.item x)) : ∃ c, r = some (.ok x c) /\ stro x c = true := by
 unfold Rc.of at h
 split at h
 ·rename_i d c
  split at h
  ·rename_i m; cases h; exact ⟨c, rfl, m⟩
  ·cases h
 ·cases h
theorem Rc.of_skip {r : Option Re} (h : Rc.of r = some .skip) : False := by
 unfold Rc.of at h
 split at h
 ·split at h <;> cases h
 ·cases h
theorem q4r {fr : List (Option Nat)} {δ : List Sv} {i : Nat} (h : fr[i]? = some none) : (q0s fr δ)[i]? = some .no := by
 unfold q0s
 rw [List.getElem?_map, h]; rfl
noncomputable def q1w (X : Cx) (E : St -> XK) (δ : List Sv) (tgE iter : Expr) (ifs : List Expr) (elt : Expr) (scope : Scope) (N' : List Str) (fr : List (Option Nat)) (tg : Tg) (re : Re) : Prop :=
 ∃ wi tc te, PI X tgE iter wi /\ (∀ C cells sB HB fp, PTs (q0w X scope N' C cells sB HB fp) ifs tc) /\ (∀ C cells sB HB fp, PE (q0w X scope N' C cells sB HB fp) elt te) /\
  ∀ σ H Q, dE X.D E δ re σ H Q -> z3B fr wi (gT X.K tg) tc te σ H Q
theorem q5x {iter : Expr} {env : Env} (hset : q3V iter = false) : ∀ x, foldedSetIterable iter env x = pure x := by cases iter <;> first | (intro _; rfl) | cases hset
theorem q1w.pe (P : q1w X E δ tgE iter ifs elt scope N' fr tg re) (S : CompScope X.N N' scope X.env.scope fr) (hc : X.calm = true) (hG : ∀ C cells sB HB fp, PG (q0w X scope N' C cells sB HB fp) tgE (gT X.K tg)) (hset : q3V iter = false) :
  PE X (.ListComp elt [⟨tgE, iter, ifs, 0⟩] scope pos) (dE X.D E δ re) := by
 obtain ⟨wi, tc, te, h1, h2, h3, h4⟩ := P
 exact (z4c (pos := pos) S hc h1 hG h2 h3 (q5x hset)).weak h4
theorem RSt.noNames {D : Dm} {H : Hp} {σ : St} {δ : List Sv} {O W : List Addr} (R : RSt D H σ δ O W) (fr : List (Option Nat)) : RSt D H (L2.inner fr σ) (q0s fr []) O [] := by
 have no : ∀ (j : Nat) sv, (q0s fr [])[j]? = some sv -> sv = .no := λ j sv h => by
  unfold q0s at h
  rw [List.getElem?_map] at h
  cases q : fr[j]? with
  | none => rw [q] at h; cases h
  | some o =>
   rw [q] at h
   cases o with
   | none => cases h; rfl
   | some i => cases h; rfl
 refine ⟨λ j d h => (by cases no j _ h), λ j d h => (by cases no j _ h), λ j k a d d' h1 h2 e1 e2 => (by cases no j _ h1), λ j d h => (by cases no j _ h), λ j d h => (by cases no j _ h), ?_, ?_⟩
 ·unfold L2.inner q0s; rw [List.length_map, List.length_map]
 ·exact ⟨λ a ha => R.hid.ot a (by rw [List.append_nil] at ha; exact List.mem_append_left _ ha), Same.refl _, λ a ha => (nomatch ha), λ a ha => (nomatch ha)⟩
theorem q4O {evElt : List Sv -> Option Re} (S : CompScope X.N N' scope X.env.scope fr) (hc : X.calm = true) (hnd : ∀ (j k i : Nat), fr[j]? = some (some i) -> fr[k]? = some (some i) -> j = k) (hsl : ∀ i ∈ q2V tg, fr[i]? = some none) (hi : ∀ q, ri = some q -> PI X tgE iter (dI X.D E δ q))
  (hG : ∀ C cells sB HB fp, PG (q0w X scope N' C cells sB HB fp) tgE (gT X.K tg)) (he : ∀ δ' r, evElt δ' = some r -> ∀ C cells sB HB fp, PE (q0w X scope N' C cells sB HB fp) elt (dE X.D E0s δ' r))
  (h : (Ri.thn ri λ ds c => if c = .weak \/ mostLen < ds.length then (if c = .weak /\ ds.length <= mostLen then q2t (q0E (λ d => (tg.bind d (q0s fr [])).bind λ δ' => Rc.of (evElt δ')) ds) else none) else q1x (q0E (λ d => (tg.bind d (q0s fr δ)).bind λ δ' => Rc.of (evElt δ')) ds)) = some re) : q1w X E δ tgE iter [] elt scope N' fr tg re := by
 cases hri : ri with
 | none => rw [hri] at h; cases h
 | some q =>
  rw [hri] at h
  have A := hi q hri
  refine ⟨_, _, _, A, (λ C cells sB HB fp => z2X), (λ C cells sB HB fp => PE.any (ι := { p : List Sv × Re // evElt p.1 = some p.2 }) (t := λ k => dE X.D E0s k.1.1 k.1.2) λ k => he k.1.1 k.1.2 k.2 C cells sB HB fp), ?_⟩
  cases q with
  | ex c => cases h; exact λ σ H Q ⟨O, W, R, p⟩ => ⟨O, W, R, p⟩
  | ok ds c =>
   have h' : (if c = .weak \/ mostLen < ds.length then (if c = .weak /\ ds.length <= mostLen then q2t (q0E (λ d => (tg.bind d (q0s fr [])).bind λ δ' => Rc.of (evElt δ')) ds) else none) else q1x (q0E (λ d => (tg.bind d (q0s fr δ)).bind λ δ' => Rc.of (evElt δ')) ds)) = some re := h
   split at h'
   ·split at h'
    ·rename_i m
     obtain ⟨rfl, ml⟩ := m
     unfold q2t at h'
     split at h'
     ·cases h'
     ·rename_i xs hx
      cases h'
      refine λ σ H Q ⟨O, W, R, p⟩ => ⟨O, W, R, λ J H1 s1 w => ?_⟩
      have w' : Wk X.D J ds (hidW O [] .strong) (q1N O [] .strong) H1 := by
       show Wk X.D J ds (O ++ []) (O ++ []) H1
       rw [List.append_nil]; exact w
      have hd0 : Hid O [] H H := (R.noNames fr).hid
      refine q5i (tg := tg) (D := X.D) (O := O) (W := []) w' hd0 (by intro z; cases z) ((R.mono s1).noNames fr) (λ i hi => .inl (q4r (hsl i hi))) (q2c (by omega)) hx s1 (λ d rc hm hg => ?_) (λ d x hm hg δ' hb σ' H2 s2 R2 K hK => ?_) (λ v H' s' g' => p v H' s' ?_)
      ·cases hb : tg.bind d (q0s fr []) with
       | none => rw [hb] at hg; cases hg
       | some δ' =>
        rw [hb] at hg
        refine ⟨δ', rfl, λ σ' H2 s2 R2 K k1 k2 => ?_⟩
        cases rc with
        | skip => exact (Rc.of_skip hg).elim
        | item x => exact k2 x rfl H2 (Same.refl _)
      ·rw [hb] at hg
       obtain ⟨cl, e1, e2⟩ := Rc.of_item hg
       exact ⟨⟨⟨δ', .ok x cl⟩, e1⟩, O, [], R2, λ v H3 s3 g3 => hK v H3 s3 (g3.stro (R2.hid.mono s3) e2)⟩
      ·show Rep X.D (L2.wo O H') _ v
       have := Got.strong g' (hd0.mono s')
       rw [List.append_nil] at this
       exact this
    ·cases h'
   ·rename_i m
    rw [not_or] at m
    unfold q1x at h'
    split at h'
    ·cases h'
    ·rename_i xs hx
     cases h'
     refine λ σ H Q ⟨O, W, R, p⟩ => ⟨O, W, R, λ J H1 s1 w => ?_⟩
     refine q5i (tg := tg) (D := X.D) w R.hid m.1 ((R.mono s1).inner fr hnd) (λ i hi => .inl (q4r (hsl i hi))) (q2c (by omega)) hx s1 (λ d rc hm hg => ?_) (λ d x hm hg δ' hb σ' H2 s2 R2 K hK => ?_) p
     ·cases hb : tg.bind d (q0s fr δ) with
      | none => rw [hb] at hg; cases hg
      | some δ' =>
       rw [hb] at hg
       refine ⟨δ', rfl, λ σ' H2 s2 R2 K k1 k2 => ?_⟩
       cases rc with
       | skip => exact (Rc.of_skip hg).elim
       | item x => exact k2 x rfl H2 (Same.refl _)
     ·rw [hb] at hg
      obtain ⟨cl, e1, e2⟩ := Rc.of_item hg
      exact ⟨⟨⟨δ', .ok x cl⟩, e1⟩, O, W, R2, λ v H3 s3 g3 => hK v H3 s3 (g3.stro (R2.hid.mono s3) e2)⟩
theorem q4z {evElt : List Sv -> Option Re} {evC : List Sv -> Option Rt} {cond : Expr} (S : CompScope X.N N' scope X.env.scope fr) (hc : X.calm = true) (hnd : ∀ (j k i : Nat), fr[j]? = some (some i) -> fr[k]? = some (some i) -> j = k) (hsl : ∀ i ∈ q2V tg, fr[i]? = some none) (hi : ∀ q, ri = some q -> PI X tgE iter (dI X.D E δ q))
  (hG : ∀ C cells sB HB fp, PG (q0w X scope N' C cells sB HB fp) tgE (gT X.K tg)) (he : ∀ δ' r, evElt δ' = some r -> ∀ C cells sB HB fp, PE (q0w X scope N' C cells sB HB fp) elt (dE X.D E0s δ' r))
  (ht : ∀ δ' r, evC δ' = some r -> ∀ C cells sB HB fp, PT (q0w X scope N' C cells sB HB fp) cond (dT X.D E0s δ' r))
  (h : (Ri.thn ri λ ds c => if c = .weak \/ mostLen < ds.length then none else q1x (q0E (λ d => (tg.bind d (q0s fr δ)).bind λ δ' => Rc.test (evC δ') (Rc.of (evElt δ'))) ds)) = some re) : q1w X E δ tgE iter [cond] elt scope N' fr tg re := by
 cases hri : ri with
 | none => rw [hri] at h; cases h
 | some q =>
  rw [hri] at h
  have A := hi q hri
  refine ⟨_, _, _, A, (λ C cells sB HB fp => PTs.any (ι := { p : List Sv × Rt // evC p.1 = some p.2 }) (t := λ k => dT X.D E0s k.1.1 k.1.2) λ k => z3L (ht k.1.1 k.1.2 k.2 C cells sB HB fp)),
   (λ C cells sB HB fp => PE.any (ι := { p : List Sv × Re // evElt p.1 = some p.2 }) (t := λ k => dE X.D E0s k.1.1 k.1.2) λ k => he k.1.1 k.1.2 k.2 C cells sB HB fp), ?_⟩
  cases q with
  | ex c => cases h; exact λ σ H Q ⟨O, W, R, p⟩ => ⟨O, W, R, p⟩
  | ok ds c =>
   have h' : (if c = .weak \/ mostLen < ds.length then none else q1x (q0E (λ d => (tg.bind d (q0s fr δ)).bind λ δ' => Rc.test (evC δ') (Rc.of (evElt δ'))) ds)) = some re := h
   split at h'
   ·cases h'
   ·rename_i m
    rw [not_or] at m
    unfold q1x at h'
    split at h'
    ·cases h'
    ·rename_i xs hx
     cases h'
     refine λ σ H Q ⟨O, W, R, p⟩ => ⟨O, W, R, λ J H1 s1 w => ?_⟩
     refine q5i (tg := tg) (D := X.D) w R.hid m.1 ((R.mono s1).inner fr hnd) (λ i hi => .inl (q4r (hsl i hi))) (q2c (by omega)) hx s1 (λ d rc hm hg => ?_) (λ d x hm hg δ' hb σ' H2 s2 R2 K hK => ?_) p
     ·cases hb : tg.bind d (q0s fr δ) with
      | none => rw [hb] at hg; cases hg
      | some δ' =>
       rw [hb] at hg
       have hg' : Rc.test (evC δ') (Rc.of (evElt δ')) = some rc := hg
       refine ⟨δ', rfl, λ σ' H2 s2 R2 K k1 k2 => ?_⟩
       unfold Rc.test at hg'
       split at hg'
       ·rename_i q
        refine ⟨⟨⟨δ', .ok true⟩, q⟩, O, W, R2, λ H3 s3 => ?_⟩
        cases rc with
        | skip => exact (Rc.of_skip hg').elim
        | item x => exact k2 x rfl H3 s3
       ·rename_i q
        cases hg'
        exact ⟨⟨⟨δ', .ok false⟩, q⟩, O, W, R2, λ H3 s3 => k1 rfl H3 s3⟩
       ·cases hg'
     ·rw [hb] at hg
      have hg' : Rc.test (evC δ') (Rc.of (evElt δ')) = some (.item x) := hg
      unfold Rc.test at hg'
      split at hg'
      ·obtain ⟨cl, e1, e2⟩ := Rc.of_item hg'
       exact ⟨⟨⟨δ', .ok x cl⟩, e1⟩, O, W, R2, λ v H3 s3 g3 => hK v H3 s3 (g3.stro (R2.hid.mono s3) e2)⟩
      ·cases hg'
      ·cases hg'
end
end L2
end
section
namespace L2
open PySem PySem.Spec PyProof.Rows
noncomputable def dEnd (D : Dm) (E : St -> XK) (H0 : Hp) (O : List Addr) (Dn : Ends) : Out -> Prop
 | .nx δ => ∀ σ H W, RSt D H σ δ O W -> (∀ a ∈ W, H0 a = none) -> Same H0 H -> Dn.nx σ H
 | .rt d fr => ∀ v H, Same H0 H -> GotR D O H0 H d fr v -> Dn.rt v H
 | .rtt d => ∀ v H, Same H0 H -> GotT D O H0 H d v -> Dn.rt v H
 | .ex c δ => ∀ σ H W C, D.mg c = some C -> RSt D H σ δ O W -> (∀ a ∈ W, H0 a = none) -> Same H0 H -> E σ C none H
noncomputable def dS (D : Dm) (E : St -> XK) (δ : List Sv) (o : Out) : TS := λ Dn σ H => ∃ H0 O W, RSt D H σ δ O W /\ (∀ a ∈ W, H0 a = none) /\ (∀ a ∈ O, H0 a ≠ none) /\ Same H0 H /\ dEnd D E H0 O Dn o
section
variable {X : Cx} {E : St -> XK} {δ δ1 : List Sv} {st : Stmt} {rest body els : List Stmt} {o : Out} {e c : Expr} {pos pos' : Pos} {ra : Option Re} {rt : Option Rt} {i : Nat} {x : Str}
theorem z3W : PSs X [] (dS X.D E δ (.nx δ)) := z3g.weak λ Dn σ H ⟨H0, O, W, R, fr, fo, sm, k⟩ => k σ H W R fr sm
theorem z1B (h1 : PS X st (dS X.D E δ (.nx δ1))) (h2 : PSs X rest (dS X.D E δ1 o)) : PSs X (st :: rest) (dS X.D E δ o) :=
 (q4d h1 h2).weak λ Dn σ H ⟨H0, O, W, R, fr, fo, sm, k⟩ => ⟨H0, O, W, R, fr, fo, sm, λ σ' H' W' R' fr' sm' => ⟨H0, O, W', R', fr', fo, sm', k⟩⟩
theorem z6P {d : DV} {fr : Bool} (h1 : PS X st (dS X.D E δ (.rt d fr))) : PSs X (st :: rest) (dS X.D E δ (.rt d fr)) :=
 (q4d h1 q1L).weak λ Dn σ H ⟨H0, O, W, R, fr, fo, sm, k⟩ => ⟨H0, O, W, R, fr, fo, sm, k⟩
theorem z2R {d : DV} (h1 : PS X st (dS X.D E δ (.rtt d))) : PSs X (st :: rest) (dS X.D E δ (.rtt d)) :=
 (q4d h1 q1L).weak λ Dn σ H ⟨H0, O, W, R, fr, fo, sm, k⟩ => ⟨H0, O, W, R, fr, fo, sm, k⟩
theorem z6G {c : Str} {δ' : List Sv} (h1 : PS X st (dS X.D E δ (.ex c δ'))) : PSs X (st :: rest) (dS X.D E δ (.ex c δ')) :=
 (q4d h1 q1L).weak λ Dn σ H ⟨H0, O, W, R, fr, fo, sm, k⟩ => ⟨H0, O, W, R, fr, fo, sm, k⟩
theorem q5y {D : Dm} {H0 H : Hp} {O W : List Addr} {σ : St} {Dn : Ends} {c : Str} {Q : VK} (R : RSt D H σ δ O W) (fr : ∀ a ∈ W, H0 a = none) (sm : Same H0 H) (k : dEnd D E H0 O Dn (.ex c δ)) : Post D E σ O W H H Q (.ex c) :=
 λ H' C m s => k σ H' W C m (R.mono s) fr (sm.trans s)
theorem z5c (hc : ∀ q, rt = some q -> PT X c (dT X.D E δ q)) {ro rp : Option Out} (h1 : ∀ q, ro = some q -> PSs X body (dS X.D E δ q)) (h2 : ∀ q, rp = some q -> PSs X els (dS X.D E δ q)) (h : (Rt.thnS δ rt λ k => if k then ro else rp) = some o) : PS X (.If c body els pos) (dS X.D E δ o) := by
 cases hrt : rt with
 | none => rw [hrt] at h; cases h
 | some q =>
  rw [hrt] at h
  have C := hc q hrt
  cases q with
  | ex c => cases h; exact (z4L C q1L q1L).weak λ Dn σ H ⟨H0, O, W, R, fr, fo, sm, k⟩ => ⟨O, W, R, λ H' C m s => k σ H' W C m (R.mono s) fr (sm.trans s)⟩
  | ok b =>
   cases b with
   | true =>
    have h' : ro = some o := h
    exact (z4L C (h1 o h') q1L).weak λ Dn σ H ⟨H0, O, W, R, fr, fo, sm, k⟩ => ⟨O, W, R, λ H1 s1 => iteT ⟨H0, O, W, R.mono s1, fr, fo, sm.trans s1, k⟩⟩
   | false =>
    have h' : rp = some o := h
    exact (z4L C q1L (h2 o h')).weak λ Dn σ H ⟨H0, O, W, R, fr, fo, sm, k⟩ => ⟨O, W, R, λ H1 s1 => iteF ⟨H0, O, W, R.mono s1, fr, fo, sm.trans s1, k⟩⟩
theorem z4g (ha : ∀ q, ra = some q -> PE X e (dE X.D E δ q)) (h : (Re.thnS δ ra λ d c => some (retD d c)) = some o) : PS X (.Return (some e) pos) (dS X.D E δ o) := by
 cases hra : ra with
 | none => rw [hra] at h; cases h
 | some q =>
  rw [hra] at h
  have A := ha q hra
  cases q with
  | ex c => cases h; exact (q8Y A).weak λ Dn σ H ⟨H0, O, W, R, fr, fo, sm, k⟩ => ⟨O, W, R, q5y R fr sm k⟩
  | ok d cl =>
   have h2 : some (retD d cl) = some o := h
   cases h2
   by_cases hft : cl = .ft
   ·subst hft
    refine (q8Y A).weak λ Dn σ H ⟨H0, O, W, R, fr, fo, sm, k⟩ => ⟨O, W, R, λ v H1 s1 g => (k : dEnd X.D E H0 O Dn (.rtt d)) v H1 (sm.trans s1) ?_⟩
    obtain ⟨t, ts, p, xs, ds, es, e1, e2, e0, e3, e4, e5, e6⟩ := g
    have up : Same (L2.wo (p :: (O ++ W)) H1) (L2.wo (p :: O) H1) := q0R λ b hb => by rcases List.mem_cons.mp hb with z | z; exact List.mem_cons.mpr (.inl z); exact List.mem_cons_of_mem _ (List.mem_append_left _ z)
    exact .inl ⟨t, ts, p, xs, ds, es, e1, e2, (q0R q5Y).tseq e0, sm.free e3, e4, e5.mono up, e6.mono up⟩
   have hrt : retD d cl = .rt d (frD d cl) := by cases cl <;> first | rfl | exact absurd rfl hft
   rw [hrt]
   refine (q8Y A).weak λ Dn σ H ⟨H0, O, W, R, fr, fo, sm, k⟩ => ⟨O, W, R, λ v H1 s1 g => (k : dEnd X.D E H0 O Dn (.rt d (frD d cl))) v H1 (sm.trans s1) ?_⟩
   have hd := R.hid.mono s1
   cases hf : frD d cl with
   | false => exact g.weak hd
   | true =>
    unfold frD at hf
    split at hf
    ·obtain ⟨p, xs, ds, e1, e2, e3, e4, e5⟩ := g
     exact ⟨p, xs, ds, e1, e2, sm.free e3, e4, e5.mono (q0R λ b hb => by rcases List.mem_cons.mp hb with z | z; exact List.mem_cons.mpr (.inl z); exact List.mem_cons_of_mem _ (List.mem_append_left _ z))⟩
    ·obtain ⟨a, xs, e1, e0, e2, e3⟩ := g
     exact ⟨a, xs, _, e1, rfl, fr a e0, q1G _ _ e2, e3.mono (q0R λ b hb => by rcases List.mem_cons.mp hb with z | z; rw [z]; exact List.mem_append_right _ e0; exact List.mem_append_left _ z)⟩
    ·cases hf
theorem q3w {v : Expr} {t : Option Expr} {l : Nat} {env : Env} (h : q6J v = false) : swapsWith v t l env = pure false := by
 cases v <;> first | rfl | cases h
theorem z3f (ha : ∀ q, ra = some q -> PE X e (dE X.D E δ q)) (hc : q6J e = false) (h : (Re.thnS δ ra λ _ _ => some (.nx δ)) = some o) : PS X (.Expr e pos) (dS X.D E δ o) := by
 cases hra : ra with
 | none => rw [hra] at h; cases h
 | some q =>
  rw [hra] at h
  have A := ha q hra
  cases q with
  | ex c => cases h; exact (q5m A (q3w hc)).weak λ Dn σ H ⟨H0, O, W, R, fr, fo, sm, k⟩ => ⟨O, W, R, q5y R fr sm k⟩
  | ok d cl => cases h; exact (q5m A (q3w hc)).weak λ Dn σ H ⟨H0, O, W, R, fr, fo, sm, k⟩ => ⟨O, W, R, λ v H1 s1 g => k σ H1 W (R.mono s1) fr (sm.trans s1)⟩
theorem q2s {O W : List Addr} {p b : Addr} : b ∈ O ++ p :: W ↔ b ∈ p :: (O ++ W) := by
 simp only [List.mem_append, List.mem_cons]
 constructor
 ·rintro (h | h | h)
  ·exact .inr (.inl h)
  ·exact .inl h
  ·exact .inr (.inr h)
 ·rintro (h | h | h)
  ·exact .inr (.inl h)
  ·exact .inl h
  ·exact .inr (.inr h)
theorem q0d {α : Type} {l : List α} {i j : Nat} {a b : α} (h : (l.set i a)[j]? = some b) (hn : a ≠ b) : j ≠ i := λ z => by
 subst z
 have hl : j < l.length := by
  have := (List.getElem?_eq_some_iff.mp h).1
  rw [List.length_set] at this; exact this
 rw [List.getElem?_set_self hl] at h
 exact hn (Option.some.inj h)
theorem q4C {α : Type} {l : List α} {i : Nat} {a b : α} (h : (l.set i a)[i]? = some b) : i < l.length /\ a = b := by
 have hl : i < l.length := by
  have := (List.getElem?_eq_some_iff.mp h).1
  rw [List.length_set] at this; exact this
 rw [List.getElem?_set_self hl] at h
 exact ⟨hl, Option.some.inj h⟩
theorem RSt.alloc {D : Dm} {H H' : Hp} {σ : St} {O W : List Addr} {p : Addr} {xs : List V} {ds : List DV} (R : RSt D H σ δ O W) (s : Same H H') (hp : H p = none) (hp' : H' p = some (.lst xs)) (r : RepL D (L2.wo (p :: (O ++ W)) H') ds xs) (i : Nat) :
  RSt D H' (σ.set i (some (.ref p))) (δ.set i (.own (.lst ds))) O (p :: W) := by
 have old : Same (L2.wo (O ++ W) H) (L2.wo (O ++ p :: W) H') := λ b o e => by
  obtain ⟨hb, e⟩ := q1a e
  have hbp : b ≠ p := q0v e hp
  rw [q0A (λ z => by rcases List.mem_cons.mp (q2s.mp z) with z | z; exact hbp z; exact hb z)]
  exact s b o e
 have eqv : Same (L2.wo (p :: (O ++ W)) H') (L2.wo (O ++ p :: W) H') := q0R λ b hb => q2s.mp hb
 refine ⟨λ j d h => ?_, λ j ds' h => ?_, λ j k a d1 d2 h1 h2 e1 e2 => ?_, λ j d h => ?_, λ j d h => by
   have hj := q0d h (by intro z; cases z)
   rw [List.getElem?_set_ne (Ne.symm hj)] at h ⊢
   obtain ⟨⟨p1, L, e0, e1, e2, e3⟩, u, n⟩ := R.o2 j d h
   refine ⟨⟨p1, L, e0, e1, (e2.mono s).sub λ a _ ha => List.mem_cons_of_mem _ ha, λ k d2 a q q2 => ?_⟩, λ k d2 q => ?_, λ k d2 q => ?_⟩
   ·by_cases hk : k = i
    ·subst hk
     obtain ⟨_, z⟩ := q4C q2
     cases z
     intro z
     obtain ⟨_, ys, w⟩ := e2.dom z
     rw [hp] at w
     cases w
    ·rw [List.getElem?_set_ne (Ne.symm hk)] at q q2
     exact e3 k d2 a q q2
   ·have hk := q0d q (by intro z; cases z)
    rw [List.getElem?_set_ne (Ne.symm hk)] at q
    exact u k d2 q
   ·have hk := q0d q (by intro z; cases z)
    rw [List.getElem?_set_ne (Ne.symm hk)] at q
    exact n k d2 q, by rw [List.length_set, List.length_set]; exact R.len, ⟨λ a ha => ?_, Same.refl _, λ a ha => ?_, λ a ha => ?_⟩⟩
 ·have hj := q0d h (by intro z; cases z)
  rw [List.getElem?_set_ne (Ne.symm hj)] at h ⊢
  obtain ⟨v, e1, e2⟩ := R.val j d h
  exact ⟨v, e1, e2.mono old⟩
 ·by_cases hj : j = i
  ·subst hj
   obtain ⟨hl, e⟩ := q4C h
   cases e
   exact ⟨p, xs, ds, rfl, List.getElem?_set_self (by rw [R.len]; exact hl), List.mem_cons_self, hp', r.mono eqv⟩
  ·rw [List.getElem?_set_ne (Ne.symm hj)] at h ⊢
   obtain ⟨a, ys, ds1, e0, e1, e2, e3, e4⟩ := R.own j ds' h
   exact ⟨a, ys, ds1, e0, e1, List.mem_cons_of_mem _ e2, s _ _ e3, e4.mono old⟩
 ·have key : ∀ {j : Nat} {d1 : DV}, (δ.set i (.own (.lst ds)))[j]? = some (.own d1) -> (σ.set i (some (.ref p)))[j]? = some (some (V.ref a)) -> (j = i /\ a = p) \/ (j ≠ i /\ δ[j]? = some (.own d1) /\ σ[j]? = some (some (V.ref a)) /\ a ≠ p) := λ {j d1} h e => by
   by_cases hj : j = i
   ·subst hj
    obtain ⟨_, z⟩ := q4C e
    cases z
    exact .inl ⟨rfl, rfl⟩
   ·rw [List.getElem?_set_ne (Ne.symm hj)] at h e
    refine .inr ⟨hj, h, e, λ z => ?_⟩
    obtain ⟨a', ys, ds1, _, q1, _, q3, _⟩ := R.own j d1 h
    rw [e] at q1; cases q1
    rw [z, hp] at q3; cases q3
  rcases key h1 e1 with ⟨z1, z2⟩ | ⟨z1, z2, z3, z4⟩ <;> rcases key h2 e2 with ⟨y1, y2⟩ | ⟨y1, y2, y3, y4⟩
  ·rw [z1, y1]
  ·exact absurd z2 y4
  ·exact absurd y2 z4
  ·exact R.inj j k a d1 d2 z2 y2 z3 y3
 ·have hj := q0d h (by intro z; cases z)
  rw [List.getElem?_set_ne (Ne.symm hj)] at h ⊢
  obtain ⟨⟨t, ts, p1, ys, ds1, es, e0, e1, e2, e3, e4, e5, e6, e7⟩, u⟩ := R.ot j d h
  refine ⟨⟨t, ts, p1, ys, ds1, es, e0, e1, old.tseq e2, List.mem_cons_of_mem _ e3, s _ _ e4, e5.mono old, e6.mono old, λ k d2 q => ?_⟩, λ k d2 q => ?_⟩
  ·by_cases hk : k = i
   ·subst hk
    intro z
    obtain ⟨_, z⟩ := q4C z
    cases z
    rw [hp] at e4
    cases e4
   ·rw [List.getElem?_set_ne (Ne.symm hk)] at q ⊢
    exact e7 k d2 q
  ·have hk := q0d q (by intro z; cases z)
   rw [List.getElem?_set_ne (Ne.symm hk)] at q
   exact u k d2 q
 ·rcases List.mem_cons.mp (q2s.mp ha) with z | z
  ·rw [z, hp']; intro q; cases q
  ·intro q; exact R.hid.ot a z (s.free q)
 ·rcases List.mem_cons.mp ha with z | z
  ·exact ⟨xs, by rw [z]; exact hp'⟩
  ·obtain ⟨ys, q⟩ := R.hid.wl a z; exact ⟨ys, s _ _ q⟩
 ·rcases List.mem_cons.mp ha with z | z
  ·intro q; exact R.hid.ot p (List.mem_append_left _ (by rw [<- z]; exact q)) hp
  ·exact R.hid.dj a z
theorem z0s {i : Nat} {δ : List Sv} (h : noOt i δ = true) {j : Nat} {d : DV} (q : δ[j]? = some (.ot d)) : j = i := by
 unfold noOt at h
 rw [List.all_eq_true] at h
 have hj : j < δ.length := (List.getElem?_eq_some_iff.mp q).1
 have := h j (List.mem_range.mpr hj)
 rw [q] at this
 simpa using this
theorem z4O {i : Nat} {δ : List Sv} (h : noOt i δ = true) {j : Nat} {d : DV} (q : δ[j]? = some (.o2 d)) : j = i := by
 unfold noOt at h
 rw [List.all_eq_true] at h
 have hj : j < δ.length := (List.getElem?_eq_some_iff.mp q).1
 have := h j (List.mem_range.mpr hj)
 rw [q] at this
 simpa using this
theorem RSt.allocT {D : Dm} {H H' : Hp} {σ : St} {O W : List Addr} {t p : Addr} {ts xs : List V} {ds es : List DV} (R : RSt D H σ δ O W) (s : Same H H') (ht : SqT D.K (L2.wo (O ++ W) H') t (.ref p :: ts)) (hp : H p = none) (hp' : H' p = some (.lst xs)) (r : RepL D (L2.wo (p :: (O ++ W)) H') ds xs) (r2 : RepL D (L2.wo (p :: (O ++ W)) H') es ts) (i : Nat) (hno : noOt i δ = true) :
  RSt D H' (σ.set i (some (.ref t))) (δ.set i (.ot (.tup (.lst ds :: es)))) O (p :: W) := by
 have old : Same (L2.wo (O ++ W) H) (L2.wo (O ++ p :: W) H') := λ b o e => by
  obtain ⟨hb, e⟩ := q1a e
  have hbp : b ≠ p := q0v e hp
  rw [q0A (λ z => by rcases List.mem_cons.mp (q2s.mp z) with z | z; exact hbp z; exact hb z)]
  exact s b o e
 have eqv : Same (L2.wo (p :: (O ++ W)) H') (L2.wo (O ++ p :: W) H') := q0R λ b hb => q2s.mp hb
 have ht' : SqT D.K (L2.wo (O ++ p :: W) H') t (.ref p :: ts) := by
  have ne : ∀ {o : HO}, L2.wo (O ++ W) H' t = some o -> (∀ ys, o ≠ .lst ys) -> L2.wo (O ++ p :: W) H' t = some o := λ {o} e ho => by
   obtain ⟨hb, e⟩ := q1a e
   rw [q0A (λ z => by
    rcases List.mem_cons.mp (q2s.mp z) with z | z
    ·rw [z, hp'] at e; cases e; exact ho _ rfl
    ·exact hb z)]
   exact e
  rcases ht with (h | ⟨o, h⟩) | h
  ·exact .inl (.inl (ne h (by intro ys z; cases z)))
  ·exact .inl (.inr ⟨o, ne h (by intro ys z; cases z)⟩)
  ·exact .inr h
 refine ⟨λ j d h => ?_, λ j ds' h => ?_, λ j k a d1 d2 h1 h2 e1 e2 => ?_, λ j d h => ?_, λ j d h => absurd (z4O hno (by have hj := q0d h (by intro z; cases z); rw [List.getElem?_set_ne (Ne.symm hj)] at h; exact h)) (q0d h (by intro z; cases z)), by rw [List.length_set, List.length_set]; exact R.len, ⟨λ a ha => ?_, Same.refl _, λ a ha => ?_, λ a ha => ?_⟩⟩
 ·have hj := q0d h (by intro z; cases z)
  rw [List.getElem?_set_ne (Ne.symm hj)] at h ⊢
  obtain ⟨v, e1, e2⟩ := R.val j d h
  exact ⟨v, e1, e2.mono old⟩
 ·have hj := q0d h (by intro z; cases z)
  rw [List.getElem?_set_ne (Ne.symm hj)] at h ⊢
  obtain ⟨a, ys, ds1, e0, e1, e2, e3, e4⟩ := R.own j ds' h
  exact ⟨a, ys, ds1, e0, e1, List.mem_cons_of_mem _ e2, s _ _ e3, e4.mono old⟩
 ·have n1 := q0d h1 (by intro z; cases z)
  have n2 := q0d h2 (by intro z; cases z)
  rw [List.getElem?_set_ne (Ne.symm n1)] at h1 e1
  rw [List.getElem?_set_ne (Ne.symm n2)] at h2 e2
  exact R.inj j k a d1 d2 h1 h2 e1 e2
 ·have hj : j = i := by
   by_cases hj : j = i
   ·exact hj
   ·rw [List.getElem?_set_ne (Ne.symm hj)] at h
    exact z0s hno h
  subst hj
  obtain ⟨hl, e⟩ := q4C h
  cases e
  refine ⟨⟨t, ts, p, xs, ds, es, rfl, List.getElem?_set_self (by rw [R.len]; exact hl), ht', List.mem_cons_self, hp', r.mono eqv, r2.mono eqv, λ k d2 q => ?_⟩, λ k d2 q => ?_⟩
  ·have hk := q0d q (by intro z; cases z)
   rw [List.getElem?_set_ne (Ne.symm hk)] at q ⊢
   intro z
   obtain ⟨a, ys, ds1, f0, f1, f2, f3, f4⟩ := R.own k d2 q
   rw [z] at f1
   cases f1
   rw [hp] at f3
   cases f3
  ·by_cases hk : k = j
   ·exact hk
   ·rw [List.getElem?_set_ne (Ne.symm hk)] at q
    exact z0s hno q
 ·rcases List.mem_cons.mp (q2s.mp ha) with z | z
  ·rw [z, hp']; intro q; cases q
  ·intro q; exact R.hid.ot a z (s.free q)
 ·rcases List.mem_cons.mp ha with z | z
  ·exact ⟨xs, by rw [z]; exact hp'⟩
  ·obtain ⟨ys, q⟩ := R.hid.wl a z; exact ⟨ys, s _ _ q⟩
 ·rcases List.mem_cons.mp ha with z | z
  ·intro q; exact R.hid.ot p (List.mem_append_left _ (by rw [<- z]; exact q)) hp
  ·exact R.hid.dj a z
theorem RSt.write {D : Dm} {H : Hp} {σ : St} {O W : List Addr} {a : Addr} {xs' : List V} {ds ds' : List DV} (R : RSt D H σ δ O W) (hi : δ[i]? = some (.own (.lst ds))) (ha : σ[i]? = some (some (.ref a))) (r : RepL D (L2.wo (O ++ W) H) ds' xs') :
  RSt D (upd H a (.lst xs')) σ (δ.set i (.own (.lst ds'))) O W := by
 obtain ⟨a', xs, ds0, e0, e1, e2, e3, e4⟩ := R.own i _ hi
 rw [ha] at e1; cases e1
 have old : Same (L2.wo (O ++ W) H) (L2.wo (O ++ W) (upd H a (.lst xs'))) := λ b o e => by
  obtain ⟨hb, e⟩ := q1a e
  rw [q0A hb, q0x λ z => hb (by rw [z]; exact List.mem_append_right _ e2)]
  exact e
 have hl : i < δ.length := (List.getElem?_eq_some_iff.mp hi).1
 refine ⟨λ j d h => ?_, λ j ds'' h => ?_, λ j k b d1 d2 h1 h2 q1 q2 => ?_, λ j d h => ?_, λ j d h => by
   have hj := q0d h (by intro z; cases z)
   rw [List.getElem?_set_ne (Ne.symm hj)] at h
   obtain ⟨⟨p1, L, f0, f1, f2, f3⟩, u, n⟩ := R.o2 j d h
   refine ⟨⟨p1, L, f0, f1, f2.write (f3 i _ a hi ha), λ k d2 b q q2 => ?_⟩, λ k d2 q => ?_, λ k d2 q => ?_⟩
   ·by_cases hk : k = i
    ·subst hk
     exact f3 k _ b hi q2
    ·rw [List.getElem?_set_ne (Ne.symm hk)] at q
     exact f3 k d2 b q q2
   ·have hk := q0d q (by intro z; cases z)
    rw [List.getElem?_set_ne (Ne.symm hk)] at q
    exact u k d2 q
   ·have hk := q0d q (by intro z; cases z)
    rw [List.getElem?_set_ne (Ne.symm hk)] at q
    exact n k d2 q, by rw [List.length_set]; exact R.len, ⟨λ b hb q => ?_, Same.refl _, λ b hb => ?_, R.hid.dj⟩⟩
 ·have hj := q0d h (by intro z; cases z)
  rw [List.getElem?_set_ne (Ne.symm hj)] at h
  obtain ⟨v, q1, q2⟩ := R.val j d h
  exact ⟨v, q1, q2.mono old⟩
 ·by_cases hj : j = i
  ·subst hj
   obtain ⟨_, e⟩ := q4C h
   cases e
   exact ⟨a, xs', ds', rfl, ha, e2, q0T, r.mono old⟩
  ·rw [List.getElem?_set_ne (Ne.symm hj)] at h
   obtain ⟨b, ys, ds1, q0, q1, q2, q3, q4⟩ := R.own j ds'' h
   refine ⟨b, ys, ds1, q0, q1, q2, ?_, q4.mono old⟩
   rw [q0x λ z => hj (R.inj j i a ds'' _ h hi (by rw [<- z]; exact q1) ha)]
   exact q3
 ·have key : ∀ {j : Nat} {d1 : DV}, (δ.set i (.own (.lst ds')))[j]? = some (.own d1) -> ∃ d0, δ[j]? = some (.own d0) := λ {j d1} h => by
   by_cases hj : j = i
   ·subst hj; exact ⟨_, hi⟩
   ·rw [List.getElem?_set_ne (Ne.symm hj)] at h; exact ⟨d1, h⟩
  obtain ⟨d1', z1⟩ := key h1
  obtain ⟨d2', z2⟩ := key h2
  exact R.inj j k b d1' d2' z1 z2 q1 q2
 ·have hj := q0d h (by intro z; cases z)
  rw [List.getElem?_set_ne (Ne.symm hj)] at h
  obtain ⟨⟨t, ts, p1, ys, ds1, es, f0, f1, f2, f3, f4, f5, f6, f7⟩, u⟩ := R.ot j d h
  refine ⟨⟨t, ts, p1, ys, ds1, es, f0, f1, old.tseq f2, f3, ?_, f5.mono old, f6.mono old, λ k d2 q => ?_⟩, λ k d2 q => ?_⟩
  ·rw [q0x λ z => f7 i _ hi (by rw [z]; exact ha)]
   exact f4
  ·by_cases hk : k = i
   ·subst hk
    exact f7 k _ hi
   ·rw [List.getElem?_set_ne (Ne.symm hk)] at q
    exact f7 k d2 q
  ·have hk := q0d q (by intro z; cases z)
   rw [List.getElem?_set_ne (Ne.symm hk)] at q
   exact u k d2 q
 ·by_cases hba : b = a
  ·rw [hba, q0T] at q; cases q
  ·rw [q0x hba] at q; exact R.hid.ot b hb q
 ·by_cases hba : b = a
  ·exact ⟨xs', by rw [hba]; exact q0T⟩
  ·obtain ⟨ys, q⟩ := R.hid.wl b hb; exact ⟨ys, by rw [q0x hba]; exact q⟩
theorem q3y {H0 H : Hp} {a : Addr} {o : HO} (h : Same H0 H) (ha : H0 a = none) : Same H0 (upd H a o) := λ b u e => by
 rw [q0x (q0v e ha)]
 exact h b u e
theorem z2h {Dn : Ends} {σ : St} {H H0 : Hp} {O W : List Addr} {own : Bool} {d : DV} {cl : Cl} {D : Dm} (h : (if own then q4E i δ d cl else (if stro d cl then some (.nx (δ.set i (.val d))) else none)) = some o)
  (R : RSt D H σ δ O W) (fr : ∀ a ∈ W, H0 a = none) (sm : Same H0 H) (k : dEnd D E H0 O Dn o) : ∀ v H', Same H H' -> Got D O W H H' d cl v -> Dn.nx (σ.set i (some v)) H' := λ v H1 s1 g => by
 cases own with
 | true =>
  simp only [if_true] at h
  unfold q4E at h
  split at h
  ·cases h
   obtain ⟨p, xs, ds, e1, e2, e3, e4, e5⟩ := g
   subst e1 e2
   exact k _ H1 (p :: W) (R.alloc s1 e3 e4 e5 i) (λ a ha => by
    rcases List.mem_cons.mp ha with z | z
    ·rw [z]; exact sm.free e3
    ·exact fr a z) (sm.trans s1)
  ·split at h
   ·rename_i hno
    cases h
    obtain ⟨t, ts, p, xs, ds, es, e1, e2, e0, e3, e4, e5, e6⟩ := g
    subst e1 e2
    exact k _ H1 (p :: W) (R.allocT s1 e0 e3 e4 e5 e6 i hno) (λ a ha => by
     rcases List.mem_cons.mp ha with z | z
     ·rw [z]; exact sm.free e3
     ·exact fr a z) (sm.trans s1)
   ·cases h
  ·cases h
 | false =>
  simp only [Bool.false_eq_true, if_false] at h
  split at h
  ·rename_i m
   cases h
   exact k _ H1 W ((R.mono s1).setVal (g.stro (R.hid.mono s1) m) i) fr (sm.trans s1)
  ·cases h
theorem q9N {own : Bool} (hN : X.N.Nodup) (hi : X.N[i]? = some x) (hx : Loc X.env.scope x) (hf : X.fn x = true \/ X.env.scope.names.lookup x = some .local) (ha : ∀ q, ra = some q -> PE X e (dE X.D E δ q)) (hc : swapsWith e (some (.Name x pos')) pos.line X.env = pure false)
  (h : (Re.thnS δ ra λ d c => if own then q4E i δ d c else (if stro d c then some (.nx (δ.set i (.val d))) else none)) = some o) : PS X (.Assign [.Name x pos'] e pos) (dS X.D E δ o) := by
 cases hra : ra with
 | none => rw [hra] at h; cases h
 | some q =>
  rw [hra] at h
  have A := ha q hra
  cases q with
  | ex c => cases h; exact (q9A hN hi hx A hc hf).weak λ Dn σ H ⟨H0, O, W, R, fr, fo, sm, k⟩ => ⟨O, W, R, q5y R fr sm k⟩
  | ok d cl => exact (q9A hN hi hx A hc hf).weak λ Dn σ H ⟨H0, O, W, R, fr, fo, sm, k⟩ => ⟨O, W, R, z2h h R fr sm k⟩
theorem q6Z {own : Bool} {tgE iter elt : Expr} {ifs : List Expr} {scope : Scope} {N' : List Str} {fr : List (Option Nat)} {tg : Tg} {re : Re} (S : CompScope X.N N' scope X.env.scope fr) (hc : X.calm = true) (hN : X.N.Nodup) (hi : X.N[i]? = some x) (hx : X.env.scope.names.lookup x = some .local)
  (P : q1w X E δ tgE iter ifs elt scope N' fr tg re) (hG : ∀ C cells sB HB fp, PG (q0w X scope N' C cells sB HB fp) tgE (gT X.K tg)) (hset : q3V iter = false) {cpos : Pos} (hsw : swapsWith (.ListComp elt [⟨tgE, iter, ifs, 0⟩] scope cpos) (some (.Name x pos')) pos.line X.env = pure true)
  (h : (Re.thnS δ (some re) λ d c => if own then q4E i δ d c else (if stro d c then some (.nx (δ.set i (.val d))) else none)) = some o) : PS X (.Assign [.Name x pos'] (.ListComp elt [⟨tgE, iter, ifs, 0⟩] scope cpos) pos) (dS X.D E δ o) := by
 obtain ⟨wi, tc, te, h1, h2, h3, h4⟩ := P
 refine (q8F S hc hN hi hx h1 hG h2 h3 hsw (q5x hset)).weak λ Dn σ H ⟨H0, O, W, R, fr, fo, sm, k⟩ => h4 σ H _ ⟨O, W, R, ?_⟩
 cases re with
 | ex c => cases h; exact q5y R fr sm k
 | ok d cl => exact z2h h R fr sm k
theorem q8m {apos cpos npos : Pos} (hv : PE X (.Name x npos) (tVar i)) (he : ∀ q, ra = some q -> PE X e (dE X.D E δ q)) (hs : q0y e = false) (hline : (apos.endLine == cpos.line) = true)
  (h : (match δ[i]? with
   | some (.own (.lst ds)) => Re.thnS δ ra λ d c => if stro d c /\ ds.length < mostLen then some (.nx (δ.set i (.own (.lst (ds ++ [d]))))) else none
   | _ => none) = some o) : PS X (.Expr (.Call (.Attribute (.Name x npos) "append" apos) [e] [] cpos) pos) (dS X.D E δ o) := by
 split at h
 ·rename_i ds hi
  have C := λ t (hA : PE X e t) => q5m (pos := pos) (z5O PySem.F.plainAttrs_list PySem.F.slot_list_append PySem.F.type_list_append q9u hv (q0Z hA q3j (q0p hs)) rfl (by rw [q0p hs]; rfl) hline (q0p hs) rfl) rfl
  cases hra : ra with
  | none => rw [hra] at h; cases h
  | some q =>
   rw [hra] at h
   have A := he q hra
   cases q with
   | ex c =>
    cases h
    exact (C _ A).weak λ Dn σ H ⟨H0, O, W, R, fr, fo, sm, k⟩ => by
     obtain ⟨a, xs, ds0, e0, e1, e2, e3, e4⟩ := R.own i _ hi
     exact ⟨.ref a, e1, .inl ⟨rfl, xs, SqL.of e3⟩, O, W, R, q5y (Q := λ _ _ => False) R fr sm k⟩
   | ok d cl =>
    have h' : (if stro d cl /\ ds.length < mostLen then some (Out.nx (δ.set i (.own (.lst (ds ++ [d]))))) else none) = some o := h
    split at h'
    ·rename_i m
     cases h'
     exact (C _ A).weak λ Dn σ H ⟨H0, O, W, R, fr, fo, sm, k⟩ => by
      obtain ⟨a, xs, ds0, e0, e1, e2, e3, e4⟩ := R.own i _ hi
      cases e0
      refine ⟨.ref a, e1, .inl ⟨rfl, xs, SqL.of e3⟩, O, W, R, λ v H1 s1 g => ?_⟩
      have R1 := R.mono s1
      refine ⟨a, xs, v, rfl, rfl, s1 _ _ e3, by rw [e4.length]; exact Nat.lt_of_lt_of_le m.2 (by decide), ?_⟩
      exact k σ _ W (R1.write hi e1 ((e4.mono s1.wo).append (RepL.one (g.stro (R.hid.mono s1) m.1)))) fr (q3y (sm.trans s1) (fr a e2))
    ·cases h'
 ·cases h
theorem q9x {npos spos : Pos} {ix : Expr} {rb : Option Re} (hv : PE X (.Name x npos) (tVar i)) (he : ∀ q, ra = some q -> PE X e (dE X.D E δ q)) (hx : ∀ q, rb = some q -> PE X ix (dE X.D E δ q)) (hsl : q5A ix = false)
  (h : (match δ[i]? with
   | some (.own (.lst ds)) => Re.thnS δ ra λ d c => Re.thnS δ rb λ k _ => (match k with
    | .int k => (match q2a ds.length k with
     | some j => if stro d c then some (.nx (δ.set i (.own (.lst (ds.set j d))))) else none
     | none => none)
    | _ => none)
   | _ => none) = some o) : PS X (.Assign [.Subscript (.Name x npos) ix spos] e pos) (dS X.D E δ o) := by
 have sub : ∀ v, assign (.Subscript (.Name x npos) ix spos) X.env v = (do
   let ov <- holding [v] (eval (.Name x npos) X.env)
   let iv <- holding [v, ov] (eval ix X.env)
   standAt spos
   holding [v, ov, iv] (setItem ov iv v)
   release [v, ov, iv] []) := by cases ix <;> first | (intro _; rfl) | cases hsl
 have C := λ t tk (hA : PE X e t) (hK : PE X ix tk) => z5v (pos := pos) hA (z5k hv hK z1l sub) (by cases e <;> rfl) (by cases e <;> rfl) rfl
 split at h
 ·rename_i ds hi
  cases hra : ra with
  | none => rw [hra] at h; cases h
  | some q =>
   rw [hra] at h
   have A := he q hra
   cases q with
   | ex c =>
    cases h
    exact (C _ _ A q1I).weak λ Dn σ H ⟨H0, O, W, R, fr, fo, sm, k⟩ => ⟨O, W, R, q5y (Q := λ _ _ => False) R fr sm k⟩
   | ok d cl =>
    cases hrb : rb with
    | none => rw [hrb] at h; cases h
    | some q =>
     rw [hrb] at h
     have B := hx q hrb
     cases q with
     | ex c =>
      cases h
      exact (C _ _ A B).weak λ Dn σ H ⟨H0, O, W, R, fr, fo, sm, k⟩ => ⟨O, W, R, λ v H1 s1 g => by
       have R1 := R.mono s1
       obtain ⟨a, xs, ds0, e0, e1, e2, e3, e4⟩ := R1.own i _ hi
       exact ⟨.ref a, e1, O, W, R1, q5y (Q := λ _ _ => False) R1 fr (sm.trans s1) k⟩⟩
     | ok dk ck =>
      have h' : (match (generalizing := false) dk with
       | .int k => (match q2a ds.length k with
        | some j => if stro d cl then some (Out.nx (δ.set i (.own (.lst (ds.set j d))))) else none
        | none => none)
       | _ => none) = some o := h
      split at h'
      ·rename_i k0
       split at h'
       ·rename_i j hj
        split at h'
        ·rename_i m
         cases h'
         exact (C _ _ A B).weak λ Dn σ H ⟨H0, O, W, R, fr, fo, sm, k⟩ => ⟨O, W, R, λ v H1 s1 g => by
          have R1 := R.mono s1
          obtain ⟨a, xs, ds0, e0, e1, e2, e3, e4⟩ := R1.own i _ hi
          cases e0
          refine ⟨.ref a, e1, O, W, R1, λ y H2 s2 g2 => ?_⟩
          have R2 := R1.mono s2
          refine ⟨a, xs, k0, j, rfl, g2.int (R1.hid.mono s2), s2 _ _ e3, by rw [e4.length]; exact hj, ?_⟩
          exact k σ _ W (R2.write hi e1 (RepL.set ((g.mono s2).stro ((R.hid.mono s1).mono s2) m) j (e4.mono s2.wo))) fr (q3y ((sm.trans s1).trans s2) (fr a e2))⟩
        ·cases h'
       ·cases h'
      ·cases h'
 ·cases h
theorem RSt.freeze {D : Dm} {H : Hp} {σ : St} {O W : List Addr} {d : DV} (R : RSt D H σ δ O W) (hi : δ[i]? = some (.own d)) : ∃ W', (∀ a ∈ W', a ∈ W) /\ RSt D H σ (δ.set i (.val d)) O W' := by
 obtain ⟨a, xs, ds, e0, e1, e2, e3, e4⟩ := R.own i d hi
 subst e0
 have hl : i < δ.length := (List.getElem?_eq_some_iff.mp hi).1
 have sub : ∀ b ∈ O ++ W.filter (λ b => decide (b ≠ a)), b ∈ O ++ W := λ b hb => by
  rcases List.mem_append.mp hb with z | z
  ·exact List.mem_append_left _ z
  ·exact List.mem_append_right _ (List.mem_filter.mp z).1
 have hao : a ∉ O ++ W.filter (λ b => decide (b ≠ a)) := λ z => by
  rcases List.mem_append.mp z with z | z
  ·exact R.hid.dj a e2 z
  ·exact absurd rfl (of_decide_eq_true (List.mem_filter.mp z).2)
 refine ⟨W.filter λ b => decide (b ≠ a), λ b hb => (List.mem_filter.mp hb).1, ⟨λ j d h => ?_, λ j ds' h => ?_, λ j k b d1 d2 h1 h2 q1 q2 => ?_, λ j d h => ?_, λ j d h => by
   have hj := q0d h (by intro z; cases z)
   rw [List.getElem?_set_ne (Ne.symm hj)] at h
   obtain ⟨⟨p1, L, f0, f1, f2, f3⟩, u, n⟩ := R.o2 j d h
   refine ⟨⟨p1, L, f0, f1, f2.sub λ b hb hbw => List.mem_filter.mpr ⟨hbw, decide_eq_true λ z => f3 i _ a hi e1 (by rw [<- z]; exact hb)⟩, λ k d2 b q q2 => ?_⟩, λ k d2 q => ?_, λ k d2 q => ?_⟩
   ·have hk := q0d q (by intro z; cases z)
    rw [List.getElem?_set_ne (Ne.symm hk)] at q
    exact f3 k d2 b q q2
   ·have hk := q0d q (by intro z; cases z)
    rw [List.getElem?_set_ne (Ne.symm hk)] at q
    exact u k d2 q
   ·have hk := q0d q (by intro z; cases z)
    rw [List.getElem?_set_ne (Ne.symm hk)] at q
    exact n k d2 q, by rw [List.length_set]; exact R.len,
  ⟨λ b hb => R.hid.ot b (sub b hb), Same.refl _, λ b hb => R.hid.wl b (List.mem_filter.mp hb).1, λ b hb => R.hid.dj b (List.mem_filter.mp hb).1⟩⟩⟩
 ·by_cases hj : j = i
  ·subst hj
   obtain ⟨_, e⟩ := q4C h
   cases e
   exact ⟨.ref a, e1, q0B.mpr ⟨a, xs, rfl, by rw [q0A hao]; exact e3, e4.mono (q0R sub)⟩⟩
  ·rw [List.getElem?_set_ne (Ne.symm hj)] at h
   obtain ⟨v, q1, q2⟩ := R.val j d h
   exact ⟨v, q1, q2.mono (q0R sub)⟩
 ·have hj := q0d h (by intro z; cases z)
  rw [List.getElem?_set_ne (Ne.symm hj)] at h
  obtain ⟨b, ys, ds1, q0, q1, q2, q3, q4⟩ := R.own j ds' h
  refine ⟨b, ys, ds1, q0, q1, List.mem_filter.mpr ⟨q2, decide_eq_true λ z => hj (R.inj j i a ds' _ h hi (by rw [<- z]; exact q1) e1)⟩, q3, q4.mono (q0R sub)⟩
 ·have n1 := q0d h1 (by intro z; cases z)
  have n2 := q0d h2 (by intro z; cases z)
  rw [List.getElem?_set_ne (Ne.symm n1)] at h1
  rw [List.getElem?_set_ne (Ne.symm n2)] at h2
  exact R.inj j k b d1 d2 h1 h2 q1 q2
 ·have hj := q0d h (by intro z; cases z)
  rw [List.getElem?_set_ne (Ne.symm hj)] at h
  obtain ⟨⟨t, ts, p1, ys, ds1, es, f0, f1, f2, f3, f4, f5, f6, f7⟩, u⟩ := R.ot j d h
  refine ⟨⟨t, ts, p1, ys, ds1, es, f0, f1, (q0R sub).tseq f2, List.mem_filter.mpr ⟨f3, decide_eq_true λ z => f7 i _ hi (by rw [z]; exact e1)⟩, f4, f5.mono (q0R sub), f6.mono (q0R sub), λ k d2 q => ?_⟩, λ k d2 q => ?_⟩
  ·have hk := q0d q (by intro z; cases z)
   rw [List.getElem?_set_ne (Ne.symm hk)] at q
   exact f7 k d2 q
  ·have hk := q0d q (by intro z; cases z)
   rw [List.getElem?_set_ne (Ne.symm hk)] at q
   exact u k d2 q
theorem q8k {d : DV} (hi : δ[i]? = some (.own d)) (h : PSs X rest (dS X.D E (δ.set i (.val d)) o)) : PSs X rest (dS X.D E δ o) := h.weak λ Dn σ H ⟨H0, O, W, R, fr, fo, sm, k⟩ => by
 obtain ⟨W', hs, R'⟩ := R.freeze hi
 exact ⟨H0, O, W', R', λ a ha => fr a (hs a ha), fo, sm, k⟩
end
end L2
end
section
namespace L2
open PySem PySem.Spec PyProof.Rows
section
variable {X : Cx} {E : St -> XK} {δ δ1 : List Sv} {o : Out} {e c : Expr} {pos pos' : Pos} {ra : Option Re} {i : Nat} {x : Str}
theorem Got.seq {D : Dm} {O W : List Addr} {H0 H : Hp} {d : DV} {ys : List DV} {b : Bool} {c : Cl} {v : V} (g : Got D O W H0 H d c v) (hd : Hid O W H0 H) (hc : c = .strong \/ c = .fresh) (hk : q9f d = some (b, ys)) : ∃ a xs, v = .ref a /\ (SqL D.K H a xs \/ SqT D.K H a xs) /\ RepL D (L2.wo (O ++ W) H) ys xs := by
 have hw : c ≠ .weak := by rcases hc with z | z <;> (rw [z]; intro q; cases q)
 unfold q9f at hk
 split at hk
 ·cases hk
  obtain ⟨a, xs, e1, e2, e3⟩ := g.items hd hw
  exact ⟨a, xs, e1, .inl (SqL.of e2), e3⟩
 ·cases hk
  obtain ⟨a, xs, e1, e2, e3⟩ := g.itemsT hd hw
  exact ⟨a, xs, e1, .inr e2, e3⟩
 ·cases hk
theorem q8T {apos cpos npos : Pos} (hv : PE X (.Name x npos) (tVar i)) (he : ∀ q, ra = some q -> PE X e (dE X.D E δ q)) (hs : q0y e = false) (hline : (apos.endLine == cpos.line) = true)
  (h : (match δ[i]? with
   | some (.own (.lst ds)) => Re.thnS δ ra λ d c => if c = .strong \/ c = .fresh then (match q9f d with
    | some (_, ys) => if ds.length + ys.length <= mostLen then some (.nx (δ.set i (.own (.lst (ds ++ ys))))) else none
    | none => none) else none
   | _ => none) = some o) : PS X (.Expr (.Call (.Attribute (.Name x npos) "extend" apos) [e] [] cpos) pos) (dS X.D E δ o) := by
 split at h
 ·rename_i ds hi
  have C := λ t (hA : PE X e t) => q5m (pos := pos) (z5O PySem.F.plainAttrs_list PySem.F.slot_list_extend PySem.F.type_list_extend z5R hv (q0Z hA q3j (q0p hs)) rfl (by rw [q0p hs]; rfl) hline (q0p hs) rfl) rfl
  cases hra : ra with
  | none => rw [hra] at h; cases h
  | some q =>
   rw [hra] at h
   have A := he q hra
   cases q with
   | ex c =>
    cases h
    exact (C _ A).weak λ Dn σ H ⟨H0, O, W, R, fr, fo, sm, k⟩ => by
     obtain ⟨a, xs, ds0, e0, e1, e2, e3, e4⟩ := R.own i _ hi
     exact ⟨.ref a, e1, .inl ⟨rfl, xs, SqL.of e3⟩, O, W, R, q5y (Q := λ _ _ => False) R fr sm k⟩
   | ok d cl =>
    have h' : (if cl = .strong \/ cl = .fresh then (match q9f d with
     | some (_, ys) => if ds.length + ys.length <= mostLen then some (Out.nx (δ.set i (.own (.lst (ds ++ ys))))) else none
     | none => none) else none) = some o := h
    split at h'
    ·rename_i hcl
     split at h'
     ·rename_i b ys hk
      split at h'
      ·rename_i m
       cases h'
       exact (C _ A).weak λ Dn σ H ⟨H0, O, W, R, fr, fo, sm, k⟩ => by
        obtain ⟨a, xs, ds0, e0, e1, e2, e3, e4⟩ := R.own i _ hi
        cases e0
        refine ⟨.ref a, e1, .inl ⟨rfl, xs, SqL.of e3⟩, O, W, R, λ v H1 s1 g => ?_⟩
        have R1 := R.mono s1
        obtain ⟨a2, xs2, f1, f2, f3⟩ := g.seq (R.hid.mono s1) hcl hk
        refine ⟨a, a2, xs, xs2, rfl, by rw [f1], s1 _ _ e3, f2, by rw [e4.length, f3.length]; exact Nat.le_trans m (by decide), ?_⟩
        exact k σ _ W (R1.write hi e1 ((e4.mono s1.wo).append f3)) fr (q3y (sm.trans s1) (fr a e2))
      ·cases h'
     ·cases h'
    ·cases h'
 ·cases h
end
end L2
end
section
namespace L2
open PySem PySem.Spec PyProof.Rows
theorem PSs.any {X : Cx} {body : List Stmt} {ι : Sort _} {t : ι -> TS} (h : ∀ k, PSs X body (t k)) : PSs X body (λ D σ H => ∃ k, t k D σ H) := λ pins s σ H D I ⟨k, q⟩ => h k pins s σ H D I q
structure Lp (H0 H1 : Hp) (O W : List Addr) : Prop where
 out : ∀ {H : Hp}, Same (L2.wo W H1) H -> Same H0 H
 outW : ∀ {a : Addr}, L2.wo W H1 a = none -> H0 a = none
 in1 : ∀ a ∈ W, L2.wo W H1 a = none
 in2 : ∀ a ∈ O, L2.wo W H1 a ≠ none
 wsame : ∀ {H : Hp}, Same (L2.wo W H1) H -> Same (L2.wo (O ++ W) H1) (L2.wo (O ++ W) H)
theorem Lp.mk' {H0 H1 : Hp} {O W : List Addr} (fr : ∀ a ∈ W, H0 a = none) (fo : ∀ a ∈ O, H0 a ≠ none) (sm : Same H0 H1) : Lp H0 H1 O W where
 out := λ {H} s b u e => s b u (by
  rw [q0A λ z => by rw [fr b z] at e; cases e]
  exact sm b u e)
 outW := λ {a} q => by
  by_cases z : a ∈ W
  ·exact fr a z
  ·rw [q0A z] at q; exact sm.free q
 in1 := λ a ha => z5r ha
 in2 := λ a ha => by
  rw [q0A λ z => fo a ha (fr a z)]
  intro q
  exact fo a ha (sm.free q)
 wsame := λ {H} s b u e => by
  obtain ⟨hb, e⟩ := q1a e
  rw [q0A hb]
  exact s b u (by rw [q0A λ z => hb (List.mem_append_right _ z)]; exact e)
theorem Lp.gotR {H0 H1 : Hp} {O W : List Addr} {D : Dm} {H : Hp} {d : DV} {fr : Bool} {v : V} (L : Lp H0 H1 O W) (g : GotR D O (L2.wo W H1) H d fr v) : GotR D O H0 H d fr v := by
 cases fr with
 | false => exact g
 | true =>
  obtain ⟨p, xs, ds, e1, e2, e3, e4, e5⟩ := g
  exact ⟨p, xs, ds, e1, e2, L.outW e3, e4, e5⟩
theorem Lp.gotT {H0 H1 : Hp} {O W : List Addr} {D : Dm} {H : Hp} {d : DV} {v : V} (L : Lp H0 H1 O W) (g : GotT D O (L2.wo W H1) H d v) : GotT D O H0 H d v := by
 rcases g with ⟨t, ts, p, xs, ds, es, e1, e2, e0, e3, e4, e5, e6⟩ | ⟨xs, e1, e2⟩
 ·exact .inl ⟨t, ts, p, xs, ds, es, e1, e2, e0, L.outW e3, e4, e5, e6⟩
 ·exact .inr ⟨xs, e1, e2.since λ a ha => L.outW ha⟩
section
variable {X : Cx} {E : St -> XK} {δ : List Sv} {tgE iter c : Expr} {body : List Stmt} {o : Out} {pos : Pos} {tg : Tg} {ri : Option Ri} {evB : List Sv -> Option Out} {evC : List Sv -> Option Rt}
theorem z2M (hp : PassesOwn (model X.prog X.w) X.A X.env X.xe) (hc : X.calm = true) (hi : ∀ q, ri = some q -> PI X tgE iter (dI X.D E δ q)) (hG : PG X tgE (gT X.K tg)) (hb : ∀ δ' o, evB δ' = some o -> PSs X body (dS X.D E δ' o)) (hset : q3V iter = false)
  (h : (Ri.thnS δ ri λ ds c => if c = .strong \/ c = .fresh then q1R tg evB ds δ else none) = some o) : PS X (.For tgE iter body [] pos) (dS X.D E δ o) := by
 have B : PSs X body (λ D σ H => ∃ k : { p : List Sv × Out // evB p.1 = some p.2 }, dS X.D E k.1.1 k.1.2 D σ H) := PSs.any λ k => hb k.1.1 k.1.2 k.2
 cases hri : ri with
 | none => rw [hri] at h; cases h
 | some q =>
  rw [hri] at h
  have A := hi q hri
  cases q with
  | ex c => cases h; exact (z2z hp hc A hG B (q5x hset)).weak λ Dn σ H ⟨H0, O, W, R, fr, fo, sm, k⟩ => ⟨O, W, R, λ H' C m s => k σ H' W C m (R.mono s) fr (sm.trans s)⟩
  | ok ds c =>
   have h' : (if c = .strong \/ c = .fresh then q1R tg evB ds δ else none) = some o := h
   split at h'
   ·rename_i m
    refine (z2z hp hc A hG B (q5x hset)).weak λ Dn σ H ⟨H0, O, W, R, fr, fo, sm, k⟩ => ⟨O, W, R, λ J H1 s1 w => ?_⟩
    have R1 := R.mono s1
    have L := Lp.mk' fr fo (sm.trans s1)
    have w : Wk X.D J ds (O ++ W) (O ++ W) H1 := by
     rcases m with m | m <;> subst m <;> exact w
    refine ⟨λ i n σ H => n = ds.length - i /\ i <= ds.length /\ ∃ δi W', q1R tg evB (ds.drop i) δi = some o /\ RSt X.D H σ δi O W' /\ (∀ a ∈ W', L2.wo W H1 a = none) /\ Same (L2.wo W H1) H,
     ⟨ds.length, rfl, Nat.zero_le _, δ, W, h', R1, L.in1, q1G⟩, ?_⟩
    rintro i n σ2 H2 ⟨rfl, hi, δi, W2, hgo, R2, b1, b2⟩
    by_cases hlt : i < ds.length
    ·refine .inr ⟨w.go i H2 (L.wsame b2) hlt, λ σ H => ∃ δi W', q1R tg evB (ds.drop (i + 1)) δi = some o /\ RSt X.D H σ δi O W' /\ (∀ a ∈ W', L2.wo W H1 a = none) /\ Same (L2.wo W H1) H,
      λ σ' H' q => ⟨ds.length - (i + 1), by omega, rfl, hlt, q⟩, λ x H3 y => ?_⟩
     have y1 := w.same i H2 x H3 y
     have y3 : Rep X.D (L2.wo (O ++ W2) H3) ds[i] x := w.yld i H2 x H3 _ (O ++ W2) (L.wsame b2) (L.wsame b2) y (List.getElem?_eq_getElem hlt) λ a ha => ⟨R2.hid.ot a ha, by
      rcases List.mem_append.mp ha with z | z
      ·exact .inl (List.mem_append_left _ z)
      ·have q := b1 a z
       by_cases hw : a ∈ W
       ·exact .inl (List.mem_append_right _ hw)
       ·rw [q0A hw] at q; exact .inr q⟩
     rw [List.drop_eq_getElem_cons hlt] at hgo
     unfold q1R at hgo
     split at hgo
     ·cases hgo
     ·rename_i δ1 hb1
      refine q6R (R2.mono y1) y3 hb1 λ σ3 R3 => ?_
      split at hgo
      ·rename_i δ2 hev
       exact ⟨⟨⟨δ1, .nx δ2⟩, hev⟩, L2.wo W H1, O, W2, R3, b1, L.in2, b2.trans y1, λ σ' H' W' R' fr' sm' => ⟨δ2, W', hgo, R', fr', sm'⟩⟩
      ·rename_i hne
       refine ⟨⟨⟨δ1, o⟩, hgo⟩, L2.wo W H1, O, W2, R3, b1, L.in2, b2.trans y1, ?_⟩
       cases o with
       | nx δ2 => exact absurd hgo (hne δ2)
       | rt d fr' => exact λ v H' s' g => k v H' (L.out s') (L.gotR g)
       | rtt d => exact λ v H' s' g => k v H' (L.out s') (L.gotT g)
       | ex c' δ' => exact λ σ' H' W' C m R' fr' sm' => k σ' H' W' C m R' (λ a ha => L.outW (fr' a ha)) (L.out sm')
    ·have e : i = ds.length := by omega
     subst e
     rw [List.drop_length] at hgo
     cases hgo
     exact .inl ⟨w.stop H2 (L.wsame b2), k σ2 H2 W2 R2 (λ a ha => L.outW (b1 a ha)) (L.out b2)⟩
   ·cases h'
end
end L2
end
section
namespace L2
open PySem PySem.Spec PyProof.Rows
section
variable {X : Cx} {CX : CXT} {k : Nat} {f : Addr} {fd : FuncData} {ps ks : List Str} {sp : Sp} {E : St -> XK} {x : Str} {p pos : Pos} {e : Expr} {es : List Expr} {kws : List Keyword} {t tk : TA} {g : List Value -> List Value -> List Value} {gV : List V -> List V -> List V}
end
section
variable {X : Cx} {E : St -> XK} {δ : List Sv} {re : Re} {rs : Option Rs}
end
section
variable {X : Cx} {E : St -> XK} {δ : List Sv} {e : Expr} {es : List Expr} {pos p : Pos} {re : Re} {rs rs' : Option Rs} {k : Nat} {fa : Addr} {fd : FuncData} {ps : List Str} {x : Str}
noncomputable def q3W {α : Type} (n : Nat) (us ws : List α) : List α := if us.length + 1 = n /\ ws.length = 1 then us ++ ws else []
theorem z0j {n : Nat} {vs zs : List V} {us ws : List Value} (r : Vals vs us) (q : Vals zs ws) : Vals (q3W n vs zs) (q3W n us ws) := by
 unfold q3W
 rw [r.length, q.length]
 split
 ·exact r.append q
 ·exact .nil
end
end L2
end
section
namespace L2
open PySem PySem.Spec PyProof.Rows
noncomputable def z6Q (K : PySem.W.Frag) (C : Addr) : Prop := ∃ B newId initId bmB, ExcBaseFacts B newId initId bmB /\ PySem.W.excIn K C bmB newId = true
structure XOne (K : PySem.W.Frag) (mg : Str -> Option Value) (G : Gs) (cl : List Str) (c : Str) (C : Addr) : Prop where
 mc : mg c = some (.ref C)
 ck : ClsK K C
 rk : z6Q K C
 own : ∀ t ∈ cl, ∀ Ct, mg t = some (.ref Ct) -> PySem.W.kitOne K (.ref C) (.ref Ct) = some (q1J G c t) /\ (q1J G c t = true -> PySem.W.exmOne K (.ref C) (.ref Ct) = some true)
 blt : PySem.W.kitOne K (.ref C) (.type "ValueError") = some (q1J G c "ValueError")
structure XFacts (K : PySem.W.Frag) (mg : Str -> Option Value) (G : Gs) (cl : List Str) : Prop where
 one : ∀ c, (G.cls.lookup c).isSome = true -> ∃ C, XOne K mg G cl c C
 all : ∀ t ∈ cl, ∃ Ct, mg t = some (.ref Ct)
section
variable {X : Cx} {E : St -> XK} {δ : List Sv} {e : Expr} {pos p p' : Pos} {re : Re} {ra : Option Re} {G : Gs} {cl : List Str} {t : Str} {o : Out}
noncomputable def rIsx (X : Cx) : List V -> Hp -> VK -> Prop := λ xs H Q => ∃ (a C : Addr) (y : V) (c : Value) (b : Bool), xs = [.ref a, y] /\ H a = some (excO a (.ref C)) /\ ClsK X.K C /\ ((∃ Ct, y = .ref Ct /\ c = .ref Ct) \/ ∃ n, y = .ty n /\ c = .type n) /\ PySem.W.kitOne X.K (.ref C) c = some b /\ Q (.bl b) H
theorem z1s : q1o X (.builtin "isinstance") (rIsx X) := by
 intro pins s σ H xs us Q I r h
 obtain ⟨a, C, y, c, b, rfl, ea, ck, hy, hk, q⟩ := h
 obtain ⟨u, w', rfl, ru, rw'⟩ := q7d r
 cases (show u = Value.ref a from ru)
 obtain ⟨⟨oe, vs, h1, h2, _⟩, _⟩ := (show q1v X.prog X.w H s.heap a (excO a (.ref C)) from I.hok a _ ea)
 have hw : w' = c := by
  rcases hy with ⟨Ct, rfl, rfl⟩ | ⟨n, rfl, rfl⟩
  ·exact rw'
  ·exact rw'
 subst hw
 exact z4t ck I.kIn ⟨oe, h1, h2⟩ hk λ tk => ⟨.bl b, H, I.tok tk, rfl, q⟩
theorem q4t : bootBuiltins "ValueError" = some (.type "ValueError") := by decide +kernel
theorem z3Z (F : XFacts X.K X.mg G cl) (hg : Gl X "isinstance") (hm : X.mg "isinstance" = none) (hgt : Gl X t) (ht : (t ∈ cl /\ (t == ("__debug__" : Str)) = false) \/ (X.mg t = none /\ t = "ValueError"))
  (ha : ∀ q, ra = some q -> PE X e (dE X.D E δ q)) (hs : q0y e = false) (h : (Re.thn ra λ y _ => (isxD G y t).map λ k => .ok (.bl k) .strong) = some re) : PE X (.Call (.Name "isinstance" p) [e, .Name t p'] [] pos) (dE X.D E δ re) := by
 have T : ∃ (v : V) (c : Value), PE X (.Name t p') (tC v) /\ ((∃ Ct, v = .ref Ct /\ c = .ref Ct) \/ ∃ n, v = .ty n /\ c = .type n) /\ ∀ c' C, XOne X.K X.mg G cl c' C -> PySem.W.kitOne X.K (.ref C) c = some (q1J G c' t) := by
  rcases ht with ⟨h1, h2⟩ | ⟨h1, h2⟩
  ·obtain ⟨Ct, hC⟩ := F.all t h1
   exact ⟨.ref Ct, .ref Ct, q9L hgt hC rfl h2, .inl ⟨Ct, rfl, rfl⟩, λ c' C x => (x.own t h1 Ct hC).1⟩
  ·subst h2
   exact ⟨.ty "ValueError", .type "ValueError", q5w hgt h1 q4t rfl (by decide +kernel) (by decide +kernel), .inr ⟨_, rfl, rfl⟩, λ c' C x => x.blt⟩
 obtain ⟨v, c, T, hv, hk⟩ := T
 have C := λ ta (hA : PE X e ta) => q3l (p := p) (pos := pos) z1s hg hm boot_isinstance (q0Z hA (q0Z T q3j) (q0p hs)) (by decide) (by decide) (q0p hs)
 cases hra : ra with
 | none => rw [hra] at h; cases h
 | some q =>
  rw [hra] at h
  have A := ha q hra
  cases q with
  | ex c => cases h; exact (C _ A).weak λ σ H Q ⟨O, W, R, p⟩ => ⟨O, W, R, p⟩
  | ok d dc =>
   obtain ⟨k, e1, e2⟩ := Option.map_eq_some_iff.mp (show ((isxD G d t).map λ k => Re.ok (.bl k) .strong) = some re from h)
   cases e2
   unfold isxD at e1
   split at e1
   ·rename_i c'
    split at e1
    ·rename_i hc
     cases e1
     obtain ⟨C0, x⟩ := F.one c' hc
     refine (C _ A).weak λ σ H Q ⟨O, W, R, p⟩ => ⟨O, W, R, λ v1 H1 s1 g1 => ?_⟩
     obtain ⟨a, C1, z1, z2, z3⟩ := q7f.mp (g1.all (R.hid.mono s1))
     rw [show C1 = Value.ref C0 from Option.some.inj (z2.symm.trans x.mc)] at z3
     exact ⟨a, C0, v, c, _, by rw [z1], z3, x.ck, hv, hk c' C0 x, p _ H1 s1 q4v⟩
    ·cases e1
   ·cases e1
theorem q9h {c : Str} {np cpos : Pos} (F : XFacts X.K X.mg G cl) (hc : X.calm = true) (hg : Gl X c) (hd : (c == ("__debug__" : Str)) = false) (hR : q4b X E) (ha : ∀ q, ra = some q -> PE X e (dE X.D E δ q)) (hs : q0y e = false)
  (h : (if (G.cls.lookup c).isSome then Re.thnS δ ra λ _ _ => some (.ex c δ) else none) = some o) : PS X (.Raise (some (.Call (.Name c np) [e] [] cpos)) none pos) (dS X.D E δ o) := by
 split at h
 ·rename_i hc'
  obtain ⟨C, x⟩ := F.one c hc'
  obtain ⟨B, newId, initId, bmB, FB, hx⟩ := x.rk
  cases hra : ra with
  | none => rw [hra] at h; cases h
  | some q =>
   rw [hra] at h
   have A := ha q hra
   have P := z1F (np := np) (cpos := cpos) (pos := pos) FB hc hg x.mc hx hR (q0Z A q3j (q0p hs)) hd (q0p hs) rfl
   cases q with
   | ex c2 => cases h; exact P.weak λ Dn σ H ⟨H0, O, W, R, fr, fo, sm, k⟩ => ⟨O, W, R, q5y R fr sm k⟩
   | ok d dc => cases h; exact P.weak λ Dn σ H ⟨H0, O, W, R, fr, fo, sm, k⟩ => ⟨O, W, R, λ v H1 s1 g => ⟨by show 1 <= sizeLine; decide, k σ H1 W _ x.mc (R.mono s1) fr (sm.trans s1)⟩⟩
 ·cases h
theorem RSt.unset {D : Dm} {H : Hp} {σ : St} {O W : List Addr} (R : RSt D H σ δ O W) (i : Nat) : RSt D H (σ.set i none) (δ.set i .no) O W where
 val := λ j d h => by
  by_cases hj : j = i
  ·subst hj
   have hl : j < δ.length := by
    have := (List.getElem?_eq_some_iff.mp h).1
    rw [List.length_set] at this; exact this
   rw [List.getElem?_set_self hl] at h
   cases h
  ·rw [List.getElem?_set_ne (Ne.symm hj)] at h ⊢
   exact R.val j d h
 own := λ j d h => by
  by_cases hj : j = i
  ·subst hj
   have hl : j < δ.length := by
    have := (List.getElem?_eq_some_iff.mp h).1
    rw [List.length_set] at this; exact this
   rw [List.getElem?_set_self hl] at h
   cases h
  ·rw [List.getElem?_set_ne (Ne.symm hj)] at h ⊢
   exact R.own j d h
 inj := λ j k a d d' h1 h2 h3 h4 => by
  have ne : ∀ (j : Nat) d, (δ.set i .no)[j]? = some (.own d) -> j ≠ i := λ j d h z => by
   subst z
   have hl : j < δ.length := by
    have := (List.getElem?_eq_some_iff.mp h).1
    rw [List.length_set] at this; exact this
   rw [List.getElem?_set_self hl] at h
   cases h
  have nj := ne j d h1
  have nk := ne k d' h2
  rw [List.getElem?_set_ne (Ne.symm nj)] at h1 h3
  rw [List.getElem?_set_ne (Ne.symm nk)] at h2 h4
  exact R.inj j k a d d' h1 h2 h3 h4
 ot := λ j d h => by
  have nj := q0d h (by intro z; cases z)
  rw [List.getElem?_set_ne (Ne.symm nj)] at h ⊢
  obtain ⟨⟨t, ts, p, xs, ds, es, e0, e1, e2, e3, e4, e5, e6, e7⟩, u⟩ := R.ot j d h
  refine ⟨⟨t, ts, p, xs, ds, es, e0, e1, e2, e3, e4, e5, e6, λ k d2 q => ?_⟩, λ k d2 q => ?_⟩
  ·have nk := q0d q (by intro z; cases z)
   rw [List.getElem?_set_ne (Ne.symm nk)] at q ⊢
   exact e7 k d2 q
  ·have nk := q0d q (by intro z; cases z)
   rw [List.getElem?_set_ne (Ne.symm nk)] at q
   exact u k d2 q
 o2 := λ j d h => by
  have nj := q0d h (by intro z; cases z)
  rw [List.getElem?_set_ne (Ne.symm nj)] at h ⊢
  obtain ⟨⟨p, L, e0, e1, e2, e3⟩, u, n⟩ := R.o2 j d h
  refine ⟨⟨p, L, e0, e1, e2, λ k d2 a q q2 => ?_⟩, λ k d2 q => ?_, λ k d2 q => ?_⟩
  ·have nk := q0d q (by intro z; cases z)
   rw [List.getElem?_set_ne (Ne.symm nk)] at q q2
   exact e3 k d2 a q q2
  ·have nk := q0d q (by intro z; cases z)
   rw [List.getElem?_set_ne (Ne.symm nk)] at q
   exact u k d2 q
  ·have nk := q0d q (by intro z; cases z)
   rw [List.getElem?_set_ne (Ne.symm nk)] at q
   exact n k d2 q
 len := by rw [List.length_set, List.length_set]; exact R.len
 hid := R.hid
theorem z3s {body : List Stmt} {c n x : Str} {np hpos tp vp ap : Pos} {ie ic : Nat} {ob : Option Out} (F : XFacts X.K X.mg G cl) (hst : X.stack = X.env :: X.outer) (hfr : X.env.frame = some X.env.locals) (hex : X.ex = []) (hgl : Gl X c) (hc : c ∈ cl) (hd : (c == ("__debug__" : Str)) = false) (hN : X.N.Nodup) (hi : X.N[ie]? = some n) (hl : X.env.scope.names.lookup n = some .local)
  (hn1 : (n == ("__debug__" : Str)) = false) (hn2 : (n == ("__classdict__" : Str)) = false) (hi2 : X.N[ic]? = some x) (hx : Loc X.env.scope x) (hf : X.fn x = true \/ X.env.scope.names.lookup x = some .local)
  (hb : ∀ pins (E' : St -> Value -> Hp -> Prop) q, ob = some q -> PSs (X.tryIn pins E') body (dS X.D (λ σ C _ H => E' σ C H) δ q))
  (h : tryD G c ie ic ob = some o) :
  PS X (.Try body [.ExceptHandler (some (.Name c np)) (some n) [.Assign [.Name x tp] (.Name n vp) ap] hpos] [] [] pos) (dS X.D E δ o) := by
 obtain ⟨Ct, hCt⟩ := F.all c hc
 cases hob : ob with
 | none => rw [hob] at h; cases h
 | some q =>
  rw [hob] at h
  have S : ∀ ea, PSs (X.inExc ea) [.Assign [.Name x tp] (.Name n vp) ap] (tAsg (tVar ie) (q8E ic)) := λ ea => z4N (q9A (X := X.inExc ea) hN hi2 hx (q5W (X := X.inExc ea) hi (.inl hl) hn1 hn2) rfl hf)
  refine (z6e (i := ie) (cv := .ref Ct) (tb := λ E' => dS X.D (λ σ C _ H => E' σ C H) δ q) hst hfr hex hgl hCt hN hi hl (λ pins E' => hb pins E' q hob) S hd).weak λ Dn σ H ⟨H0, O, W, R, fr, fo, sm, k⟩ => ⟨H0, O, W, R, fr, fo, sm, ?_⟩
  cases q with
  | nx δ' => cases h; exact k
  | rt d f => cases h; exact k
  | rtt d => cases h; exact k
  | ex c' δ' =>
   have h' : (if (G.cls.lookup c').isSome /\ q1J G c' c /\ ie < δ'.length /\ ie ≠ ic then some (Out.nx ((δ'.set ic (.val (.exc c'))).set ie .no)) else none) = some o := h
   split at h'
   ·rename_i hh
    cases h'
    obtain ⟨hh1, hh2, hh3, hh4⟩ := hh
    obtain ⟨C0, xo⟩ := F.one c' hh1
    intro σ' H' W' C hm R' fr' sm'
    rw [show C = Value.ref C0 from Option.some.inj (hm.symm.trans xo.mc)]
    refine ⟨(xo.own c hc Ct hCt).2 hh2, λ ea hea => ?_⟩
    have hout : ea ∉ O ++ W' := R'.hid.newOut hea
    have R1 := R'.mono (q0u (o := excO ea (.ref C0)) hea)
    have rp : Rep X.D (L2.wo (O ++ W') (upd H' ea (excO ea (.ref C0)))) (.exc c') (.ref ea) := q7f.mpr ⟨ea, _, rfl, xo.mc, by rw [q0A hout]; exact q0T⟩
    refine ⟨.ref ea, List.getElem?_set_self (by rw [R'.len]; exact hh3), ?_⟩
    refine k _ _ W' ?_ fr' (sm'.trans (q0u hea))
    have R2 := ((R1.setVal rp ie).setVal rp ic).unset ie
    rw [show ((δ'.set ie (Sv.val (.exc c'))).set ic (Sv.val (.exc c'))).set ie Sv.no = (δ'.set ic (Sv.val (.exc c'))).set ie Sv.no by rw [List.set_comm _ _ hh4, List.set_set]] at R2
    exact R2
   ·cases h'
end
end L2
end
section
namespace L2
open PySem PySem.Spec PyProof.Rows
noncomputable def q9H (K : PySem.W.Frag) (w : World) (mg : Str -> Option Value) (x : Str) (kvs : List (Str × Str)) : Prop :=
 ∃ a es n, mg x = some (.ref a) /\ K.lookup a = some ⟨.type "dict", none, .dict es n, #[]⟩ /\ PySem.W.KeysLit w.params es.toList /\ ∀ k v, kvs.lookup k = some v -> v.length <= sizeLine /\ ∃ t, PySem.W.nsIn K a k = some (some (.str v t))
noncomputable def DK (K : PySem.W.Frag) (D : Dm) (G : Gs) (f : Nat) (fd : FuncData) (ps : List Str) : Prop :=
 (∀ ds, G.dfl.lookup f = some ds -> ∃ us dvs, q4u K fd ps us /\ Vals dvs us /\ ∀ H, RepL D H ds dvs) /\ ∀ n, G.kws.lookup f = some n -> KBinds K fd ps [n] (q3W ps.length) (q3W ps.length)
structure Good (sg : Sg) (G : Gs) (F : Nat -> List DV -> Option Ou) (X : Cx) (E : St -> XK) : Prop where
 N : X.N = sg.N
 nd : X.N.Nodup
 vis : ∀ x, visB sg x = true -> Vis X.env.scope x
 glo : ∀ x, gloB sg x = true -> Gl X x
 loc : ∀ x, locB sg x = true -> Loc X.env.scope x /\ (X.fn x = true \/ X.env.scope.names.lookup x = some .local)
 lcl : ∀ x, sg.sc.lookup x = some .local -> X.env.scope.names.lookup x = some .local
 cel : ∀ x, (sg.sc.lookup x = some .cell \/ sg.sc.lookup x = some .free) -> X.env.scope.names.lookup x = some .cell \/ X.env.scope.names.lookup x = some .free
 calm : X.calm = true
 hu : X.A.units + 64 < cLine
 fns : ∀ f x, sg.fn[f]? = some x -> ∃ k fa fd ps, Room k X.A /\ X.mg x = some (.ref fa) /\ PySem.W.keepIn X.K (.ref fa) = true /\ q4u X.K fd ps [] /\ (∀ ds o, F f ds = some o -> ds.length = ps.length) /\
  FnOk X.prog X.w X.K X.mg X.base (CXx X.prog X.w X.base) k fa fd ps (spF X.D ps.length (F f)) /\ DK X.K X.D G f fd ps
 blt : ∀ x ∈ sg.bl, X.mg x = none
 pas : q3I (CXx X.prog X.w X.base) X E
 con : ∀ x d, G.con.lookup x = some d -> ∃ u v, X.mg x = some u /\ RelV v u /\ ∀ H, Rep X.D H d v
 own : sg.lp = true -> PassesOwn (model X.prog X.w) X.A X.env X.xe
 xf : XFacts X.K X.mg G sg.cl
 st : sg.top = true -> X.stack = X.env :: X.outer /\ X.env.frame = some X.env.locals /\ X.ex = [] /\ q4b X E
 dcs : ∀ x kvs, G.dcs.lookup x = some kvs -> q9H X.K X.w X.mg x kvs
theorem q2x : ∀ {l : List Str}, q4S l = true -> l.Nodup
 | [], _ => List.nodup_nil
 | x :: r, h => by
  unfold q4S at h
  rw [Bool.and_eq_true] at h
  refine List.nodup_cons.mpr ⟨λ z => ?_, q2x h.2⟩
  have := h.1
  rw [List.contains_iff_mem.mpr z] at this
  cases this
section
variable {sg : Sg} {G : Gs} {F : Nat -> List DV -> Option Ou} {X : Cx} {E : St -> XK} {tg : Tg} {sc : Scope} {N' : List Str} {fr : List (Option Nat)}
theorem q1D (g : Good sg G F X E) (h : q2X sg N' fr sc tg = true) : CompScope X.N N' sc X.env.scope fr /\ (∀ (j k i : Nat), fr[j]? = some (some i) -> fr[k]? = some (some i) -> j = k) /\ ∀ i ∈ q2V tg, fr[i]? = some none := by
 unfold q2X at h
 simp only [Bool.and_eq_true, List.all_eq_true, beq_iff_eq] at h
 obtain ⟨⟨⟨⟨⟨⟨h0, h1⟩, h2⟩, h3⟩, h4⟩, h5⟩, h6⟩ := h
 have h5' : ∀ (j i : Nat), fr[j]? = some (some i) -> ∃ x, N'[j]? = some x /\ sg.N[i]? = some x /\ (x, NameKind.free) ∈ sc.names := λ j i e => by
  have hj : j < fr.length := (List.getElem?_eq_some_iff.mp e).1
  have hj' : j < N'.length := by rw [<- h4]; exact hj
  have hz : (some i, N'[j]) ∈ fr.zip N' := by
   refine List.mem_of_getElem? (i := j) ?_
   rw [List.getElem?_zip_eq_some]
   exact ⟨e, List.getElem?_eq_getElem hj'⟩
  have q := h5 _ hz
  simp only [Bool.and_eq_true, beq_iff_eq, List.contains_iff_mem] at q
  exact ⟨_, List.getElem?_eq_getElem hj', q.1, q.2⟩
 refine ⟨⟨h1, q2x h2, q2x h3, h4, λ j i e => ?_, λ y hy hk => ?_⟩, λ j k i e1 e2 => ?_, h0⟩
 ·obtain ⟨x, a, b, c⟩ := h5' j i e
  exact ⟨x, a, by rw [g.N]; exact b, c⟩
 ·have q := h6 y hy
  rw [if_pos hk] at q
  simp only [Bool.or_eq_true, beq_iff_eq] at q
  exact g.cel _ q
 ·obtain ⟨x, a, b, _⟩ := h5' j i e1
  obtain ⟨x', a', b', _⟩ := h5' k i e2
  rw [b] at b'; cases b'
  exact q4e (q2x h2) a a'
theorem q1H (g : Good sg G F X E) (h : q2X sg N' fr sc tg = true) (C : Addr) (cells : List (Str × Addr)) (sB : Shared) (HB : Hp) (fp : List Addr) : Good ⟨N', sc.names, sg.fn, sg.bl, sg.cl, false, true⟩ G F (q0w X sc N' C cells sB HB fp) E0s := by
 obtain ⟨S, _, _⟩ := q1D g h
 have look : ∀ x, (q0w X sc N' C cells sB HB fp).env.scope.names.lookup x = (sc.names.lookup x).map λ k => if (k == NameKind.free && X.env.scope.kind == .function && X.env.kindOf x == some .cell) = true then NameKind.cell else k := λ x => q1T
 have one : ∀ x k, sc.names.lookup x = some k -> k ≠ .free -> (q0w X sc N' C cells sB HB fp).env.scope.names.lookup x = some k := λ x k e hk => by
  rw [look, e, Option.map_some, if_neg]
  intro z
  simp only [Bool.and_eq_true, beq_iff_eq] at z
  exact hk z.1.1
 have two : ∀ x, sc.names.lookup x = some .free -> (q0w X sc N' C cells sB HB fp).env.scope.names.lookup x = some .cell \/ (q0w X sc N' C cells sB HB fp).env.scope.names.lookup x = some .free := λ x e => by
  rw [look, e, Option.map_some]
  split
  ·exact .inl rfl
  ·exact .inr rfl
 refine ⟨rfl, S.nd, λ x hx => ?_, λ x hx => ?_, λ x hx => ?_, λ x hx => one x _ hx (by intro z; cases z), λ x hx => ?_, g.calm, g.hu, g.fns, g.blt, ?_, g.con, λ _ => .never, g.xf, (λ z => nomatch z), g.dcs⟩
 ·unfold visB at hx
  simp only [Bool.or_eq_true, beq_iff_eq] at hx
  rcases hx with (hx | hx) | hx
  ·exact .inl (one x _ hx (by intro z; cases z))
  ·exact .inr (.inl (one x _ hx (by intro z; cases z)))
  ·exact .inr (two x hx)
 ·unfold gloB at hx
  rw [beq_iff_eq] at hx
  exact one x _ hx (by intro z; cases z)
 ·unfold locB at hx
  simp only [Bool.or_eq_true, beq_iff_eq] at hx
  rcases hx with hx | hx
  ·exact ⟨.inl (one x _ hx (by intro z; cases z)), .inr (one x _ hx (by intro z; cases z))⟩
  ·exact ⟨.inr (one x _ hx (by intro z; cases z)), .inl (by show (sc.names.lookup x == some .cell) = true; rw [hx]; rfl)⟩
 ·rcases hx with hx | hx
  ·exact .inl (one x _ hx (by intro z; cases z))
  ·exact two x hx
 ·intro pins σ H s e s' I z
  obtain ⟨_, _, _, _, _, _, _, _, _, _, q⟩ := z
  exact q.elim
theorem q5g (g : Good sg G F X E) {i : Nat} {x : Str} (h : q8G sg i x = true) : X.N[i]? = some x /\ Vis X.env.scope x /\ (x == ("__debug__" : Str)) = false /\ (x == ("__classdict__" : Str)) = false := by
 unfold q8G at h
 simp only [Bool.and_eq_true, beq_iff_eq, bne_iff_ne, ne_eq] at h
 obtain ⟨⟨⟨h1, h2⟩, h3⟩, h4⟩ := h
 exact ⟨by rw [g.N]; exact h1, g.vis x h2, beq_eq_false_iff_ne.mpr h3, beq_eq_false_iff_ne.mpr h4⟩
theorem q6x (g : Good sg G F X E) {x : Str} {f : Expr} (h : bltB sg x f = true) : (∃ p, f = .Name x p) /\ Gl X x /\ X.mg x = none := by
 unfold bltB at h
 simp only [Bool.and_eq_true, beq_iff_eq, List.contains_iff_mem] at h
 obtain ⟨⟨h1, h2⟩, h3⟩ := h
 exact ⟨q0t h1, g.glo x h2, g.blt x h3⟩
theorem z1t (g : Good sg G F X E) (pins : List (Addr × Obj)) (E' : St -> Value -> Hp -> Prop) : Good ⟨sg.N, sg.sc, sg.fn, sg.bl, sg.cl, false, false⟩ G F (X.tryIn pins E') (λ σ C _ H => E' σ C H) :=
 ⟨g.N, g.nd, g.vis, g.glo, g.loc, g.lcl, g.cel, g.calm, g.hu, g.fns, g.blt, q8D, g.con, (λ z => nomatch z), g.xf, (λ z => nomatch z), g.dcs⟩
theorem q6f (g : Good sg G F X E) : ∀ (is : List Nat) (es : List Expr), es.length = is.length -> ((is.zip es).all λ p => match q0S p.2 with | some x => sg.N[p.1]? == some x && locB sg x | none => false) = true ->
  PGs X es (q7v is) /\ (assignEach es X.env).length = is.length /\ (assignEach es X.env).findIdx? (·.1) = none
 | [], [], _, _ => ⟨z3t, rfl, rfl⟩
 | [], _ :: _, h, _ => by cases h
 | _ :: _, [], h, _ => by cases h
 | i :: is, e :: es, hl, h => by
  rw [List.zip_cons_cons, List.all_cons, Bool.and_eq_true] at h
  obtain ⟨h1, h2⟩ := h
  obtain ⟨A, B, C⟩ := q6f g is es (by simpa using hl) h2
  split at h1
  ·rename_i x q
   obtain ⟨p, rfl⟩ := q0t q
   simp only [Bool.and_eq_true, beq_iff_eq] at h1
   have l := g.loc x h1.2
   refine ⟨z1Q (z0Q g.nd (by rw [g.N]; exact h1.1) l.1 l.2) A rfl, ?_, ?_⟩
   ·show (assignEach es X.env).length + 1 = is.length + 1
    rw [B]
   ·show ((false, assign (.Name x p) X.env) :: assignEach es X.env).findIdx? (·.1) = none
    rw [List.findIdx?_cons, C]; rfl
  ·cases h1
theorem q9C (g : Good sg G F X E) {tgE : Expr} (h : tgOk sg tg tgE = true) : PG X tgE (gT X.K tg) := by
 cases tg with
 | one i =>
  unfold tgOk at h
  dsimp only at h
  split at h
  ·rename_i x q
   obtain ⟨p, rfl⟩ := q0t q
   simp only [Bool.and_eq_true, beq_iff_eq] at h
   have l := g.loc x h.2
   exact z0Q g.nd (by rw [g.N]; exact h.1) l.1 l.2
  ·cases h
 | many is =>
  unfold tgOk at h
  dsimp only at h
  split at h
  ·rename_i es q
   obtain ⟨k, p, rfl⟩ := q4i q
   rw [Bool.and_eq_true, Bool.and_eq_true, beq_iff_eq] at h
   obtain ⟨A, B, C⟩ := q6f g is es h.1.1 h.2
   exact z5Q g.calm A B C
  ·cases h
end
section
variable (G : Gs) (F : Nat -> List DV -> Option Ou)
noncomputable def SE (m : ME) : Prop := ∀ {sg : Sg} {X : Cx} {E : St -> XK} {e : Expr} {δ : List Sv} {r : Re}, Good sg G F X E -> corE sg false m e = true -> evE G F m δ = some r -> PE X e (dE X.D E δ r)
noncomputable def ST (m : ME) : Prop := ∀ {sg : Sg} {X : Cx} {E : St -> XK} {e : Expr} {δ : List Sv} {r : Rt}, Good sg G F X E -> corE sg false m e = true -> tstD (evE G F m δ) = some r -> PT X e (dT X.D E δ r)
noncomputable def SI (m : ME) : Prop := ∀ {sg : Sg} {X : Cx} {E : St -> XK} {e tg : Expr} {δ : List Sv} {r : Ri}, Good sg G F X E -> corE sg true m e = true -> (isZp m = true -> (q3U tg).isSome = true) -> q0L (evE G F m δ) = some r -> PI X tg e (dI X.D E δ r)
noncomputable def SEs (ms : List ME) : Prop := ∀ {sg : Sg} {X : Cx} {E : St -> XK} {es : List Expr} {δ : List Sv} {r : Rs}, Good sg G F X E -> q0W sg ms es = true -> evEs G F ms δ = some r -> PA X es (dA X.D E δ r)
noncomputable def SAnd (ms : List ME) : Prop := ∀ {sg : Sg} {X : Cx} {E : St -> XK} {es : List Expr} {δ : List Sv} {pos : Pos}, Good sg G F X E -> q0W sg ms es = true ->
 (∀ r, q2K G F ms δ = some r -> PE X (.BoolOp .And es pos) (dE X.D E δ r)) /\ (∀ r, tstD (q2K G F ms δ) = some r -> PW X (.BoolOp .And es pos) (dT X.D E δ r))
noncomputable def SOr (ms : List ME) : Prop := ∀ {sg : Sg} {X : Cx} {E : St -> XK} {es : List Expr} {δ : List Sv} {pos : Pos}, Good sg G F X E -> q0W sg ms es = true ->
 (∀ r, evOr G F ms δ = some r -> PE X (.BoolOp .Or es pos) (dE X.D E δ r)) /\ (∀ r, tstD (evOr G F ms δ) = some r -> PW X (.BoolOp .Or es pos) (dT X.D E δ r))
noncomputable def S1 (m : ME) : Prop := SE G F m /\ ST G F m /\ SI G F m
end
section
variable {G : Gs} {F : Nat -> List DV -> Option Ou}
theorem S1.of {m : ME} (h : SE G F m) (hw : ∀ sg e, corE sg true m e = corE sg false m e) (ht : ∀ sg e env, corE sg false m e = true -> ∀ whole, isTrue e env whole = (do let v <- whole; standAt e.pos; holding [v] (truthy v))) : S1 G F m :=
 ⟨h, λ {sg X E e δ r} g hc q => q9w (λ z hz => h g hc hz) (ht sg e X.env hc) q, λ {sg X E e tg δ r} g hc _ q => q8g (λ z hz => h g (by rw [<- hw]; exact hc) hz) q⟩
theorem S1.of2 {m : ME} (h : SE G F m) (ht : ST G F m) (hw : ∀ sg e, corE sg true m e = corE sg false m e) : S1 G F m :=
 ⟨h, ht, λ {sg X E e tg δ r} g hc _ q => q8g (λ z hz => h g (by rw [<- hw]; exact hc) hz) q⟩
end
end L2
end
section
namespace L2
open PySem PySem.Spec PyProof.Rows
noncomputable def z5A : Expr -> Bool
 | .UnaryOp .Not _ _ => false | .BoolOp _ _ _ => false | .IfExp _ _ _ _ => false | .Compare _ _ _ _ => false
 | _ => true
theorem q0i {e : Expr} (h : z5A e = true) (env : Env) : ∀ whole, isTrue e env whole = (do let v <- whole; standAt e.pos; holding [v] (truthy v)) := by
 cases e with
 | UnaryOp o a p => cases o <;> first | (intro _; rfl) | cases h
 | BoolOp _ _ _ => cases h
 | IfExp _ _ _ _ => cases h
 | Compare _ _ _ _ => cases h
 | _ => intro _; rfl
section
variable {G : Gs} {F : Nat -> List DV -> Option Ou} {a b c : ME}
theorem z7T {i : Nat} : S1 G F (.var i) := by
 refine .of (λ {sg X E e δ r} g hc h => ?_) (λ _ _ => rfl) (λ sg e env hc => ?_)
 ·unfold corE at hc
  split at hc
  ·rename_i x q
   obtain ⟨p, rfl⟩ := q0t q
   obtain ⟨h1, h2, h3, h4⟩ := q5g g hc
   exact z4m h1 h2 h3 h4 (by unfold evE at h; exact h)
  ·cases hc
 ·unfold corE at hc
  split at hc
  ·rename_i x q
   obtain ⟨p, rfl⟩ := q0t q
   exact q0i rfl env
  ·cases hc
theorem q5Q {m : ME} {k : Const} {d : DV} (hm : ∀ sg w e, corE sg w m e = true -> q2T e = some k) (he : ∀ δ, evE G F m δ = some (.ok d .strong)) (hw : ∀ sg e, corE sg true m e = corE sg false m e)
  (hp : ∀ {X : Cx} {E : St -> XK} {δ : List Sv} {j : Nat} {pos : Pos} sg e, corE sg false m e = true -> PE X (.Constant k j pos) (dE X.D E δ (.ok d .strong))) : S1 G F m := by
 refine .of (λ {sg X E e δ r} g hc h => ?_) hw (λ sg e env hc => ?_)
 ·obtain ⟨j, p, rfl⟩ := q4W (hm sg false e hc)
  rw [he] at h; cases h
  exact hp sg _ hc
 ·obtain ⟨j, p, rfl⟩ := q4W (hm sg false e hc)
  exact q0i rfl env
theorem z7n {i : Int} : S1 G F (.int i) := q5Q (λ sg w e h => by unfold corE at h; exact beq_iff_eq.mp h) (λ δ => by unfold evE; rfl) (λ _ _ => rfl) λ _ _ _ => z3x
theorem s_bl {i : Bool} : S1 G F (.bl i) := q5Q (λ sg w e h => by unfold corE at h; exact beq_iff_eq.mp h) (λ δ => by unfold evE; rfl) (λ _ _ => rfl) λ _ _ _ => z6L
theorem z7S : S1 G F .non := q5Q (λ sg w e h => by unfold corE at h; exact beq_iff_eq.mp h) (λ δ => by unfold evE; rfl) (λ _ _ => rfl) λ _ _ _ => z4z
theorem z7q {i : Str} : S1 G F (.str i) := q5Q (λ sg w e h => by unfold corE at h; rw [Bool.and_eq_true] at h; exact beq_iff_eq.mp h.1) (λ δ => by unfold evE; rfl) (λ _ _ => rfl) λ _ _ h => by
 unfold corE at h
 rw [Bool.and_eq_true, decide_eq_true_eq] at h
 exact z3c (Nat.le_trans h.2 (by decide))
theorem z7f {x : Str} : S1 G F (.glb x) := by
 refine .of (λ {sg X E e δ r} g hc h => ?_) (λ _ _ => rfl) (λ sg e env hc => ?_)
 ·unfold corE at hc
  simp only [Bool.and_eq_true, beq_iff_eq, bne_iff_ne, ne_eq] at hc
  obtain ⟨p, rfl⟩ := q0t hc.1.1
  unfold evE at h
  obtain ⟨d, h1, h2⟩ := Option.map_eq_some_iff.mp h
  cases h2
  obtain ⟨u, v, m, rv, rp⟩ := g.con x d h1
  exact (q9L (g.glo x hc.1.2) m rv (beq_eq_false_iff_ne.mpr hc.2)).weak λ σ H Q ⟨O, W, R, p⟩ => p v H (Same.refl H) (rp _)
 ·unfold corE at hc
  simp only [Bool.and_eq_true, beq_iff_eq] at hc
  obtain ⟨p, rfl⟩ := q0t hc.1.1
  exact q0i rfl env
theorem z6T {op : Operator} (ha : S1 G F a) (hb : S1 G F b) : S1 G F (.bin op a b) := by
 refine .of (λ {sg X E e δ r} g hc h => ?_) (λ _ _ => rfl) (λ sg e env hc => ?_)
 ·unfold corE at hc
  split at hc
  ·rename_i ea o eb q
   obtain ⟨p, rfl⟩ := q7Z q
   simp only [Bool.and_eq_true, beq_iff_eq] at hc
   obtain ⟨⟨h1, h2⟩, h3⟩ := hc
   subst h1
   unfold evE at h
   exact z4e (λ z hz => ha.1 g h2 hz) (λ z hz => hb.1 g h3 hz) h
  ·cases hc
 ·unfold corE at hc
  split at hc
  ·rename_i q; obtain ⟨p, rfl⟩ := q7Z q; exact q0i rfl env
  ·cases hc
theorem z7E (ha : S1 G F a) : S1 G F (.not a) := by
 refine .of2 (λ {sg X E e δ r} g hc h => ?_) (λ {sg X E e δ r} g hc h => ?_) (λ _ _ => rfl)
 ·unfold corE at hc
  split at hc
  ·rename_i o ea q
   obtain ⟨p, rfl⟩ := q9V q
   simp only [Bool.and_eq_true, beq_iff_eq] at hc
   obtain ⟨h1, h2⟩ := hc
   subst h1
   unfold evE at h
   exact z4P (λ z hz => ha.1 g h2 hz) h
  ·cases hc
 ·unfold corE at hc
  split at hc
  ·rename_i o ea q
   obtain ⟨p, rfl⟩ := q9V q
   simp only [Bool.and_eq_true, beq_iff_eq] at hc
   obtain ⟨h1, h2⟩ := hc
   subst h1
   unfold evE at h
   exact z1W (λ z hz => ha.2.1 g h2 hz) h
  ·cases hc
theorem z7G {op : CmpOp} (ha : S1 G F a) (hb : S1 G F b) : S1 G F (.cmp op a b) := by
 refine .of2 (λ {sg X E e δ r} g hc h => ?_) (λ {sg X E e δ r} g hc h => ?_) (λ _ _ => rfl)
 ·unfold corE at hc
  split at hc
  ·rename_i ea o eb q
   obtain ⟨p, rfl⟩ := q7A q
   simp only [Bool.and_eq_true, beq_iff_eq, Bool.not_eq_true'] at hc
   obtain ⟨⟨⟨h1, h2⟩, h3⟩, h4⟩ := hc
   subst h1
   unfold evE at h
   exact z4o g.hu (λ z hz => ha.1 g h2 hz) (λ z hz => hb.1 g h3 hz) h4 h
  ·cases hc
 ·unfold corE at hc
  split at hc
  ·rename_i ea o eb q
   obtain ⟨p, rfl⟩ := q7A q
   simp only [Bool.and_eq_true, beq_iff_eq, Bool.not_eq_true'] at hc
   obtain ⟨⟨⟨h1, h2⟩, h3⟩, h4⟩ := hc
   subst h1
   unfold evE at h
   exact z1C g.hu (λ z hz => ha.1 g h2 hz) (λ z hz => hb.1 g h3 hz) h4 h
  ·cases hc
theorem z7V (hcc : S1 G F c) (ha : S1 G F a) (hb : S1 G F b) : S1 G F (.ite c a b) := by
 refine .of2 (λ {sg X E e δ r} g hc h => ?_) (λ {sg X E e δ r} g hc h => ?_) (λ _ _ => rfl)
 ·unfold corE at hc
  split at hc
  ·rename_i ec ea eb q
   obtain ⟨p, rfl⟩ := q9n q
   simp only [Bool.and_eq_true] at hc
   obtain ⟨⟨h1, h2⟩, h3⟩ := hc
   unfold evE at h
   exact z3o (λ z hz => hcc.2.1 g h1 hz) (λ z hz => ha.1 g h2 hz) (λ z hz => hb.1 g h3 hz) h
  ·cases hc
 ·unfold corE at hc
  split at hc
  ·rename_i ec ea eb q
   obtain ⟨p, rfl⟩ := q9n q
   simp only [Bool.and_eq_true] at hc
   obtain ⟨⟨h1, h2⟩, h3⟩ := hc
   unfold evE at h
   exact z1N (λ z hz => hcc.2.1 g h1 hz) (λ z hz => ha.2.1 g h2 hz) (λ z hz => hb.2.1 g h3 hz) h
  ·cases hc
theorem s_ix (ha : S1 G F a) (hb : S1 G F b) : S1 G F (.ix a b) := by
 refine .of (λ {sg X E e δ r} g hc h => ?_) (λ _ _ => rfl) (λ sg e env hc => ?_)
 ·unfold corE at hc
  split at hc
  ·rename_i ea eb q
   obtain ⟨p, rfl⟩ := q1z q
   simp only [Bool.and_eq_true, Bool.not_eq_true'] at hc
   obtain ⟨⟨h1, h2⟩, h3⟩ := hc
   unfold evE at h
   exact z6K (λ z hz => ha.1 g h1 hz) (λ z hz => hb.1 g h2 hz) h3 h
  ·cases hc
 ·unfold corE at hc
  split at hc
  ·rename_i q; obtain ⟨p, rfl⟩ := q1z q; exact q0i rfl env
  ·cases hc
theorem s_sl (ha : S1 G F a) (hb : S1 G F b) (hcc : S1 G F c) : S1 G F (.sl a b c) := by
 refine .of (λ {sg X E e δ r} g hc h => ?_) (λ _ _ => rfl) (λ sg e env hc => ?_)
 ·unfold corE at hc
  split at hc
  ·rename_i ea es q
   obtain ⟨p, rfl⟩ := q1z q
   split at hc
   ·rename_i q2
    obtain ⟨p2, rfl⟩ := q3G q2
    simp only [Bool.and_eq_true] at hc
    obtain ⟨⟨h1, h2⟩, h3⟩ := hc
    unfold evE at h
    exact z5V (λ z hz => ha.1 g h1 hz) (λ z hz => hb.1 g h2 hz) (λ z hz => hcc.1 g h3 hz) h
   ·cases hc
  ·cases hc
 ·unfold corE at hc
  split at hc
  ·rename_i q; obtain ⟨p, rfl⟩ := q1z q; exact q0i rfl env
  ·cases hc
theorem z7i (ha : S1 G F a) (hb : S1 G F b) : S1 G F (.slf a b) := by
 refine .of (λ {sg X E e δ r} g hc h => ?_) (λ _ _ => rfl) (λ sg e env hc => ?_)
 ·unfold corE at hc
  split at hc
  ·rename_i ea es q
   obtain ⟨p, rfl⟩ := q1z q
   split at hc
   ·rename_i q2
    obtain ⟨p2, rfl⟩ := q3G q2
    simp only [Bool.and_eq_true] at hc
    obtain ⟨h1, h2⟩ := hc
    unfold evE at h
    exact z3V (λ z hz => ha.1 g h1 hz) (λ z hz => hb.1 g h2 hz) h
   ·cases hc
  ·cases hc
 ·unfold corE at hc
  split at hc
  ·rename_i q; obtain ⟨p, rfl⟩ := q1z q; exact q0i rfl env
  ·cases hc
theorem z7H (ha : S1 G F a) (hb : S1 G F b) : S1 G F (.slt a b) := by
 refine .of (λ {sg X E e δ r} g hc h => ?_) (λ _ _ => rfl) (λ sg e env hc => ?_)
 ·unfold corE at hc
  split at hc
  ·rename_i ea es q
   obtain ⟨p, rfl⟩ := q1z q
   split at hc
   ·rename_i q2
    obtain ⟨p2, rfl⟩ := q3G q2
    simp only [Bool.and_eq_true] at hc
    obtain ⟨h1, h2⟩ := hc
    unfold evE at h
    exact z4n (λ z hz => ha.1 g h1 hz) (λ z hz => hb.1 g h2 hz) h
   ·cases hc
  ·cases hc
 ·unfold corE at hc
  split at hc
  ·rename_i q; obtain ⟨p, rfl⟩ := q1z q; exact q0i rfl env
  ·cases hc
variable {ms : List ME}
theorem q4m : ∀ {sg : Sg} {ms : List ME} {es : List Expr}, q0W sg ms es = true -> es.any q0y = false
 | _, [], [], _ => rfl
 | _, [], _ :: _, h => by unfold q0W at h; cases h
 | _, _ :: _, [], h => by unfold q0W at h; cases h
 | sg, m :: ms, e :: es, h => by
  unfold q0W at h
  simp only [Bool.and_eq_true, Bool.not_eq_true'] at h
  rw [List.any_cons, h.1.2, q4m h.2]; rfl
theorem z7L (ha : SEs G F ms) : S1 G F (.lst ms) := by
 refine .of (λ {sg X E e δ r} g hc h => ?_) (λ _ _ => rfl) (λ sg e env hc => ?_)
 ·unfold corE at hc
  split at hc
  ·rename_i es q
   obtain ⟨p, rfl⟩ := q6z q
   unfold evE at h
   exact z2K (λ z hz => ha g hc hz) h
  ·cases hc
 ·unfold corE at hc
  split at hc
  ·rename_i q; obtain ⟨p, rfl⟩ := q6z q; exact q0i rfl env
  ·cases hc
theorem z7j (ha : SEs G F ms) : S1 G F (.tup ms) := by
 refine .of (λ {sg X E e δ r} g hc h => ?_) (λ _ _ => rfl) (λ sg e env hc => ?_)
 ·unfold corE at hc
  split at hc
  ·rename_i es q
   obtain ⟨k, p, rfl⟩ := q4i q
   unfold evE at h
   exact z4k (λ z hz => ha g hc hz) h
  ·cases hc
 ·unfold corE at hc
  split at hc
  ·rename_i q; obtain ⟨k, p, rfl⟩ := q4i q; exact q0i rfl env
  ·cases hc
theorem z6g {f : Nat} (ha : SEs G F ms) : S1 G F (.call f ms) := by
 refine .of (λ {sg X E e δ r} g hc h => ?_) (λ _ _ => rfl) (λ sg e env hc => ?_)
 ·unfold corE at hc
  split at hc
  ·rename_i ef es pos q
   have := q0F q
   subst this
   rw [Bool.and_eq_true, Bool.and_eq_true] at hc
   obtain ⟨⟨h1, h2⟩, h3⟩ := hc
   split at h1
   ·rename_i x qx
    obtain ⟨p, rfl⟩ := q0t qx
    simp only [Bool.and_eq_true, beq_iff_eq, bne_iff_ne, ne_eq] at h1
    obtain ⟨k, fa, fd, ps, hr, hm, hk, hb, hl, fo, dk⟩ := g.fns f x h1.1.1
    cases es with
    | nil => cases h2
    | cons y ys =>
     have ns := q4m h3
     rw [List.any_cons, Bool.or_eq_false_iff] at ns
     unfold evE at h
     exact z1A fo hl hr (g.glo x h1.1.2) hm hk hb g.pas (λ z hz => ha g h3 hz) (beq_eq_false_iff_ne.mpr h1.2) ns.1 ns.2 h
   ·cases h1
  ·cases hc
 ·unfold corE at hc
  split at hc
  ·rename_i q; have := q0F q; subst this; exact q0i rfl env
  ·cases hc
theorem s_bi {f : Bi} (ha : SEs G F ms) : S1 G F (.bi f ms) := by
 refine .of (λ {sg X E e δ r} g hc h => ?_) (λ _ _ => rfl) (λ sg e env hc => ?_)
 ·unfold corE at hc
  split at hc
  ·rename_i ef es pos q
   have := q0F q
   subst this
   rw [Bool.and_eq_true, Bool.and_eq_true] at hc
   obtain ⟨⟨h1, h2⟩, h3⟩ := hc
   obtain ⟨⟨p, rfl⟩, hg, hm⟩ := q6x g h1
   unfold evE at h
   cases es with
   | nil => cases h2
   | cons y ys =>
    have go : q0W sg ms (y :: ys) = true -> (∀ q, evEs G F ms δ = some q -> PA X (y :: ys) (dA X.D E δ q)) /\ q0y y = false /\ ys.any q0y = false := λ z => by
     have ns := q4m z
     rw [List.any_cons, Bool.or_eq_false_iff] at ns
     exact ⟨λ w hw => ha g z hw, ns.1, ns.2⟩
    cases f with
    | len => obtain ⟨A, s1, s2⟩ := go h3; exact q7M z6H z3m hg hm boot_len (by decide) (by decide) A s1 s2 h
    | sorted => obtain ⟨A, s1, s2⟩ := go h3; exact q7M q9m q8x hg hm q3Q (by decide) (by decide) A s1 s2 h
    | min => obtain ⟨A, s1, s2⟩ := go h3; exact q7M (z5u g.calm) z3u hg hm boot_min (by decide) (by decide) A s1 s2 h
    | max => obtain ⟨A, s1, s2⟩ := go h3; exact q7M (z5X g.calm) z4u hg hm boot_max (by decide) (by decide) A s1 s2 h
    | int => obtain ⟨A, s1, s2⟩ := go h3; exact q6W z5Y z3P hg hm boot_int (by decide) (by decide) A s1 s2 h
    | list => obtain ⟨A, s1, s2⟩ := go h3; exact q6W z4K z1D hg hm boot_list (by decide) (by decide) A s1 s2 h
    | tuple => obtain ⟨A, s1, s2⟩ := go h3; exact q6W z1L z0z hg hm boot_tuple (by decide) (by decide) A s1 s2 h
    | sset =>
     dsimp only at h3
     split at h3
     ·rename_i e1 q2
      split at h3
      ·rename_i ef' es' pos' q3
       have q4 := q0F q3
       cases q2
       subst q4
       rw [Bool.and_eq_true, Bool.and_eq_true] at h3
       obtain ⟨⟨p', rfl⟩, hg', hm'⟩ := q6x g h3.1.1
       cases es' with
       | nil => cases h3.1.2
       | cons y' ys' =>
        have ns := q4m h3.2
        rw [List.any_cons, Bool.or_eq_false_iff] at ns
        cases ys' with
        | nil => exact z1S g.calm hg hm hg' hm' (λ w hw => ha g h3.2 hw) ns.1 h
        | cons y2 yr =>
         have z := beq_iff_eq.mp h3.1.2
         simp at z
      ·cases h3
     ·cases h3
  ·cases hc
 ·unfold corE at hc
  split at hc
  ·rename_i q; have := q0F q; subst this; exact q0i rfl env
  ·cases hc
theorem q4p {x : Str} (h : q1g.contains x = true) : ∃ t, q3N x = some t := by
 have key : ∀ x ∈ q1g, ∃ t, q3N x = some t := by
  intro x hx
  simp only [q1g, List.mem_cons, List.not_mem_nil, or_false] at hx
  rcases hx with rfl | rfl | rfl | rfl | rfl | rfl
  ·exact ⟨"int", by decide +kernel⟩
  ·exact ⟨"bool", by decide +kernel⟩
  ·exact ⟨"str", by decide +kernel⟩
  ·exact ⟨"list", by decide +kernel⟩
  ·exact ⟨"tuple", by decide +kernel⟩
  ·exact ⟨"dict", by decide +kernel⟩
 exact key x (List.contains_iff_mem.mp h)
theorem q2j : ∀ x ∈ q1g, x ≠ "__name__" /\ (x == ("__debug__" : Str)) = false := by
 intro x hx
 simp only [q1g, List.mem_cons, List.not_mem_nil, or_false] at hx
 rcases hx with rfl | rfl | rfl | rfl | rfl | rfl <;> exact ⟨by decide +kernel, by decide +kernel⟩
theorem z7d (ha : S1 G F a) (hb : S1 G F b) : S1 G F (.idx a b) := by
 refine .of (λ {sg X E e δ r} g hc h => ?_) (λ _ _ => rfl) (λ sg e env hc => ?_)
 ·unfold corE at hc
  split at hc
  ·rename_i ef eb pos q
   have := q0F q
   subst this
   split at hc
   ·rename_i ea n apos q2
    have := q4l q2
    subst this
    simp only [Bool.and_eq_true, beq_iff_eq, Bool.not_eq_true'] at hc
    obtain ⟨⟨⟨⟨⟨h1, h2⟩, h3⟩, h4⟩, h5⟩, h6⟩ := hc
    subst h1
    obtain ⟨y, hy⟩ := Option.isSome_iff_exists.mp h3
    obtain ⟨np, rfl⟩ := q0t hy
    unfold evE at h
    exact z3X g.hu (λ z hz => ha.1 g h2 hz) (λ z hz => hb.1 g h5 hz) rfl (by rw [beq_iff_eq]; exact h4) (q0p h6) h
   ·cases hc
  ·cases hc
 ·unfold corE at hc
  split at hc
  ·rename_i q
   have := q0F q
   subst this
   exact q0i rfl env
  ·cases hc
theorem z7g {t : Str} (ha : S1 G F a) : S1 G F (.isx a t) := by
 refine .of (λ {sg X E e δ r} g hc h => ?_) (λ _ _ => rfl) (λ sg e env hc => ?_)
 ·unfold corE at hc
  split at hc
  ·rename_i ef ea et pos q
   have := q0F q
   subst this
   simp only [Bool.and_eq_true, Bool.not_eq_true', beq_iff_eq, Bool.or_eq_true, List.contains_iff_mem, bne_iff_ne, ne_eq] at hc
   obtain ⟨⟨⟨⟨⟨⟨h1, h2⟩, h3⟩, h4⟩, h5⟩, h6⟩, h7⟩ := hc
   obtain ⟨⟨p, rfl⟩, hg, hm⟩ := q6x g h1
   obtain ⟨p', rfl⟩ := q0t h5
   unfold evE at h
   refine z3Z g.xf hg hm (g.glo t h6) ?_ (λ z hz => ha.1 g h2 hz) h3 h
   rcases h7 with ⟨k1, k2⟩ | ⟨k1, k2⟩
   ·exact .inl ⟨k1, beq_eq_false_iff_ne.mpr k2⟩
   ·refine .inr ⟨g.blt t k1, ?_⟩
    simp only [q9y, List.mem_cons, List.not_mem_nil, or_false] at k2
    exact k2
  ·cases hc
 ·unfold corE at hc
  split at hc
  ·rename_i q
   have := q0F q
   subst this
   exact q0i rfl env
  ·cases hc
theorem z7r {ts : List Str} (ha : S1 G F a) : S1 G F (.isi a ts) := by
 refine .of (λ {sg X E e δ r} g hc h => ?_) (λ _ _ => rfl) (λ sg e env hc => ?_)
 ·unfold corE at hc
  split at hc
  ·rename_i ef ea et pos q
   have := q0F q
   subst this
   simp only [Bool.and_eq_true, Bool.not_eq_true'] at hc
   obtain ⟨⟨⟨⟨h1, h2⟩, h3⟩, h4⟩, h5⟩ := hc
   obtain ⟨⟨p, rfl⟩, hg, hm⟩ := q6x g h1
   split at h5
   ·rename_i t
    simp only [Bool.and_eq_true, beq_iff_eq, List.contains_iff_mem] at h5
    obtain ⟨⟨⟨k1, k2⟩, k3⟩, k4⟩ := h5
    obtain ⟨p', rfl⟩ := q0t k1
    obtain ⟨T, hT⟩ := q4p (List.contains_iff_mem.mpr k4)
    obtain ⟨n1, n2⟩ := q2j t k4
    unfold evE at h
    exact z4Q hT hg hm (g.glo t k2) (g.blt t k3) n1 n2 (λ z hz => ha.1 g h2 hz) h3 h
   ·rename_i t u
    split at h5
    ·rename_i e1 e2 q2
     obtain ⟨kk, tp, rfl⟩ := q4i q2
     simp only [Bool.and_eq_true, beq_iff_eq, List.contains_iff_mem] at h5
     obtain ⟨⟨⟨⟨k1, k2⟩, k3⟩, k4⟩, ⟨⟨l1, l2⟩, l3⟩, l4⟩ := h5
     obtain ⟨p1, rfl⟩ := q0t k1
     obtain ⟨p2, rfl⟩ := q0t l1
     obtain ⟨T, hT⟩ := q4p (List.contains_iff_mem.mpr k4)
     obtain ⟨U, hU⟩ := q4p (List.contains_iff_mem.mpr l4)
     obtain ⟨n1, n2⟩ := q2j t k4
     obtain ⟨m1, m2⟩ := q2j u l4
     unfold evE at h
     refine z1J (kf := λ d => isiD G d [t, u]) hT hU hg hm (g.glo t k2) (g.blt t k3) n1 n2 (g.glo u l2) (g.blt u l3) m1 m2 (λ d k e1 => ?_) (λ z hz => ha.1 g h2 hz) h3 h
     have px : (q1g.contains t && q1g.contains u) = true := by rw [Bool.and_eq_true]; exact ⟨List.contains_iff_mem.mpr k4, List.contains_iff_mem.mpr l4⟩
     unfold isiD at e1
     cases d <;> first
      | (simp only [px, if_true] at e1; cases e1; exact ⟨_, rfl, rfl⟩)
      | cases e1
    ·cases h5
   ·cases h5
  ·cases hc
 ·unfold corE at hc
  split at hc
  ·rename_i q; have := q0F q; subst this; exact q0i rfl env
  ·cases hc
theorem q2k : ∀ {ms : List ME} {δ : List Sv} {l : List (DV × Cl)}, evEs G F ms δ = some (.ok l) -> l.length = ms.length
 | [], _, _, h => by unfold evEs at h; cases h; rfl
 | m :: ms, δ, l, h => by
  unfold evEs at h
  split at h
  ·cases h
  ·cases h
  ·split at h
   ·cases h
   ·cases h
   ·rename_i l' q
    cases h
    rw [List.length_cons, List.length_cons, q2k q]
theorem q3P : ∀ {sg : Sg} {ms : List ME} {es : List Expr}, q0W sg ms es = true -> ms.length = es.length
 | _, [], [], _ => rfl
 | _, [], _ :: _, h => by unfold q0W at h; cases h
 | _, _ :: _, [], h => by unfold q0W at h; cases h
 | sg, m :: ms, e :: es, h => by
  unfold q0W at h
  simp only [Bool.and_eq_true] at h
  rw [List.length_cons, List.length_cons, q3P h.2]
theorem z7U (ha : SEs G F ms) : S1 G F (.rng ms) := by
 refine ⟨λ {sg X E e δ r} g hc h => ?_, λ {sg X E e δ r} g hc h => ?_, λ {sg X E e tg δ r} g hc _ h => ?_⟩
 ·unfold corE at hc; rw [Bool.false_and] at hc; cases hc
 ·unfold corE at hc; rw [Bool.false_and] at hc; cases hc
 ·unfold corE at hc
  rw [Bool.true_and] at hc
  split at hc
  ·rename_i ef es pos q
   have := q0F q
   subst this
   rw [Bool.and_eq_true, decide_eq_true_eq] at hc
   obtain ⟨hc, hle⟩ := hc
   rw [Bool.and_eq_true] at hc
   obtain ⟨⟨p, rfl⟩, hg, hm⟩ := q6x g hc.1
   have l1 := q3P hc.2
   have ns := q4m hc.2
   unfold evE at h
   cases es with
   | nil =>
    exfalso
    cases ms with
    | nil => unfold evEs at h; cases h
    | cons _ _ => cases l1
   | cons y ys =>
    rw [List.any_cons, Bool.or_eq_false_iff] at ns
    cases ys with
    | nil => exact q8Q hg hm (λ z hz => ha g hc.2 hz) ns.1 h λ l hl => by rw [q2k hl, l1]; rfl
    | cons z zs =>
     cases zs with
     | nil =>
      have ns2 := ns.2
      rw [List.any_cons, Bool.or_eq_false_iff] at ns2
      exact q8z hg hm (λ z hz => ha g hc.2 hz) ns.1 ns2.1 h λ l hl => by rw [q2k hl, l1]; rfl
     | cons u us =>
      cases us with
      | nil =>
       have ns2 := ns.2
       rw [List.any_cons, Bool.or_eq_false_iff] at ns2
       have ns3 := ns2.2
       rw [List.any_cons, Bool.or_eq_false_iff] at ns3
       exact q8S hg hm (λ z hz => ha g hc.2 hz) ns.1 ns2.1 ns3.1 h λ l hl => by rw [q2k hl, l1]; rfl
      | cons _ _ => simp at hle
  ·cases hc
theorem z4w {sg : Sg} {X : Cx} {E : St -> XK} {e : Expr} {δ : List Sv} {r : Re} {tg : Tg} {fr : List (Option Nat)} {cp : CParts} {tn : List Str} (ha : S1 G F a) (hb : S1 G F b) (g : Good sg G F X E) (hemp : cp.ifs = [])
  (h2 : corE sg true b cp.it = true) (hz : isZp b = true -> (q3U cp.tg).isSome = true) (h4 : q2X sg (q1y sg tn fr) fr cp.sc tg = true) (h5 : tgOk ⟨q1y sg tn fr, cp.sc.names, sg.fn, sg.bl, sg.cl, false, true⟩ tg cp.tg = true) (h6 : corE ⟨q1y sg tn fr, cp.sc.names, sg.fn, sg.bl, sg.cl, false, true⟩ false a cp.elt = true)
  (h : evE G F (.comp a tg b fr) δ = some r) : q1w X E δ cp.tg cp.it cp.ifs cp.elt cp.sc (q1y sg tn fr) fr tg r := by
 obtain ⟨S, nd, sl⟩ := q1D g h4
 rw [hemp]
 unfold evE at h
 exact q4O S g.calm nd sl (λ z hz' => hb.2.2 g h2 hz hz') (λ C cells sB HB fp => q9C (q1H g h4 C cells sB HB fp) h5) (λ δ' r' hr C cells sB HB fp => ha.1 (q1H g h4 C cells sB HB fp) h6 hr) h
theorem z0Y {sg : Sg} {X : Cx} {E : St -> XK} {e cd : Expr} {δ : List Sv} {r : Re} {tg : Tg} {fr : List (Option Nat)} {cp : CParts} {tn : List Str} (ha : S1 G F a) (hb : S1 G F b) (hcc : S1 G F c) (g : Good sg G F X E) (hemp : cp.ifs = [cd])
  (h2 : corE sg true b cp.it = true) (hz : isZp b = true -> (q3U cp.tg).isSome = true) (h4 : q2X sg (q1y sg tn fr) fr cp.sc tg = true) (h5 : tgOk ⟨q1y sg tn fr, cp.sc.names, sg.fn, sg.bl, sg.cl, false, true⟩ tg cp.tg = true) (h6 : corE ⟨q1y sg tn fr, cp.sc.names, sg.fn, sg.bl, sg.cl, false, true⟩ false a cp.elt = true)
  (h7 : corE ⟨q1y sg tn fr, cp.sc.names, sg.fn, sg.bl, sg.cl, false, true⟩ false c cd = true) (h : evE G F (.compi a tg b c fr) δ = some r) : q1w X E δ cp.tg cp.it cp.ifs cp.elt cp.sc (q1y sg tn fr) fr tg r := by
 obtain ⟨S, nd, sl⟩ := q1D g h4
 rw [hemp]
 unfold evE at h
 exact q4z S g.calm nd sl (λ z hz' => hb.2.2 g h2 hz hz') (λ C cells sB HB fp => q9C (q1H g h4 C cells sB HB fp) h5) (λ δ' r' hr C cells sB HB fp => ha.1 (q1H g h4 C cells sB HB fp) h6 hr)
  (λ δ' r' hr C cells sB HB fp => hcc.2.1 (q1H g h4 C cells sB HB fp) h7 hr) h
noncomputable def q4x (G : Gs) (F : Nat -> List DV -> Option Ou) (m : ME) : Prop := ∀ {sg : Sg} {X : Cx} {E : St -> XK} {e : Expr} {δ : List Sv} {r : Re}, Good sg G F X E -> corE sg false m e = true -> evE G F m δ = some r ->
 ∃ (cp : CParts) (N' : List Str) (fr : List (Option Nat)) (tg : Tg) (p : Pos), e = .ListComp cp.elt [⟨cp.tg, cp.it, cp.ifs, 0⟩] cp.sc p /\ CompScope X.N N' cp.sc X.env.scope fr /\ q1w X E δ cp.tg cp.it cp.ifs cp.elt cp.sc N' fr tg r /\
  (∀ C cells sB HB fp, PG (q0w X cp.sc N' C cells sB HB fp) cp.tg (gT X.K tg)) /\ q3V cp.it = false
theorem q4x.s1 {m : ME} (h : q4x G F m) (hw : ∀ sg e, corE sg true m e = corE sg false m e) (hl : ∀ sg e, corE sg false m e = true -> (q4P e).isSome = true) : S1 G F m := by
 refine .of (λ {sg X E e δ r} g hc q => ?_) hw (λ sg e env hc => ?_)
 ·obtain ⟨cp, N', fr, tg, p, rfl, S, P, hG, hs⟩ := h g hc q
  exact P.pe S g.calm hG hs
 ·have := hl sg e hc
  cases z : q4P e with
  | none => rw [z] at this; cases this
  | some cp => obtain ⟨p, rfl⟩ := q4n z; exact q0i rfl env
theorem z2x {tg : Tg} {fr : List (Option Nat)} (ha : S1 G F a) (hb : S1 G F b) : q4x G F (.comp a tg b fr) := by
 intro sg X E e δ r g hc h
 unfold corE at hc
 split at hc
 ·rename_i cp q
  obtain ⟨p, rfl⟩ := q4n q
  simp only [Bool.and_eq_true, Bool.not_eq_true', Bool.or_eq_true] at hc
  obtain ⟨⟨⟨h1, h2, h3⟩, h4⟩, h5⟩ := hc
  split at h5
  ·rename_i tn qt
   simp only [Bool.and_eq_true] at h5
   refine ⟨cp, _, fr, tg, p, rfl, (q1D g h5.1.1).1, z4w (e := .ListComp cp.elt [⟨cp.tg, cp.it, cp.ifs, 0⟩] cp.sc p) ha hb g (List.isEmpty_iff.mp h1) h2 (λ z => ?_) h5.1.1 h5.1.2 h5.2 h, λ C cells sB HB fp => q9C (q1H g h5.1.1 C cells sB HB fp) h5.1.2, h4⟩
   rcases h3 with w | w
   ·rw [z] at w; cases w
   ·exact w
  ·cases h5
 ·cases hc
theorem z0C {tg : Tg} {fr : List (Option Nat)} (ha : S1 G F a) (hb : S1 G F b) (hcc : S1 G F c) : q4x G F (.compi a tg b c fr) := by
 intro sg X E e δ r g hc h
 unfold corE at hc
 split at hc
 ·rename_i cp q
  obtain ⟨p, rfl⟩ := q4n q
  simp only [Bool.and_eq_true, Bool.not_eq_true', Bool.or_eq_true] at hc
  obtain ⟨⟨⟨h2, h3⟩, h4⟩, h5⟩ := hc
  split at h5
  ·rename_i tn ec qt qi
   simp only [Bool.and_eq_true] at h5
   refine ⟨cp, _, fr, tg, p, rfl, (q1D g h5.1.1.1).1, z0Y (e := .ListComp cp.elt [⟨cp.tg, cp.it, cp.ifs, 0⟩] cp.sc p) ha hb hcc g qi h2 (λ z => ?_) h5.1.1.1 h5.1.1.2 h5.1.2 h5.2 h, λ C cells sB HB fp => q9C (q1H g h5.1.1.1 C cells sB HB fp) h5.1.1.2, h4⟩
   rcases h3 with w | w
   ·rw [z] at w; cases w
   ·exact w
  ·cases h5
 ·cases hc
theorem z5G {tg : Tg} {fr : List (Option Nat)} (ha : S1 G F a) (hb : S1 G F b) : S1 G F (.comp a tg b fr) := q4x.s1 (λ {sg X E e δ r} => z2x ha hb) (λ _ _ => rfl) λ sg e hc => by
 unfold corE at hc
 split at hc
 ·rename_i q; rw [q]; rfl
 ·cases hc
theorem z4v {tg : Tg} {fr : List (Option Nat)} (ha : S1 G F a) (hb : S1 G F b) (hcc : S1 G F c) : S1 G F (.compi a tg b c fr) := q4x.s1 (λ {sg X E e δ r} => z0C ha hb hcc) (λ _ _ => rfl) λ sg e hc => by
 unfold corE at hc
 split at hc
 ·rename_i q; rw [q]; rfl
 ·cases hc
theorem z7p : SEs G F [] := λ {sg X E es δ r} g hc h => by
 cases es with
 | nil => unfold evEs at h; cases h; exact z1v
 | cons _ _ => unfold q0W at hc; cases hc
theorem z5j (ha : S1 G F a) (hb : SEs G F ms) : SEs G F (a :: ms) := λ {sg X E es δ r} g hc h => by
 cases es with
 | nil => unfold q0W at hc; cases hc
 | cons e es =>
  unfold q0W at hc
  simp only [Bool.and_eq_true, Bool.not_eq_true'] at hc
  unfold evEs at h
  exact z0N hc.1.2 (λ z hz => ha.1 g hc.1.1 hz) (λ z hz => hb g hc.2 hz) h
theorem z4i : SAnd G F [] := λ {sg X E es δ pos} g hc => ⟨λ r h => (by unfold q2K at h; cases h), λ r h => (by unfold q2K at h; cases h)⟩
theorem z6A : SOr G F [] := λ {sg X E es δ pos} g hc => ⟨λ r h => (by unfold evOr at h; cases h), λ r h => (by unfold evOr at h; cases h)⟩
theorem z1X (ha : S1 G F a) (hb : SAnd G F ms) : SAnd G F (a :: ms) := λ {sg X E es δ pos} g hc => by
 cases es with
 | nil => unfold q0W at hc; cases hc
 | cons e es =>
  unfold q0W at hc
  simp only [Bool.and_eq_true, Bool.not_eq_true'] at hc
  cases ms with
  | nil =>
   cases es with
   | nil =>
    refine ⟨λ r h => ?_, λ r h => ?_⟩
    ·unfold q2K at h; exact z2e (ha.1 g hc.1.1 h)
    ·unfold q2K at h; exact z3R (ha.2.1 g hc.1.1 h)
   | cons _ _ => have := hc.2; unfold q0W at this; cases this
  | cons m ms =>
   cases es with
   | nil => have := hc.2; unfold q0W at this; cases this
   | cons e' es =>
    have B := @hb sg X E (e' :: es) δ pos g hc.2
    refine ⟨λ r h => ?_, λ r h => ?_⟩
    ·unfold q2K at h; exact z3H (λ z hz => ha.1 g hc.1.1 hz) (λ z hz => B.1 z hz) h
    ·unfold q2K at h; exact z1h (λ z hz => ha.2.1 g hc.1.1 hz) (λ z hz => B.2 z hz) h
theorem z4s (ha : S1 G F a) (hb : SOr G F ms) : SOr G F (a :: ms) := λ {sg X E es δ pos} g hc => by
 cases es with
 | nil => unfold q0W at hc; cases hc
 | cons e es =>
  unfold q0W at hc
  simp only [Bool.and_eq_true, Bool.not_eq_true'] at hc
  cases ms with
  | nil =>
   cases es with
   | nil =>
    refine ⟨λ r h => ?_, λ r h => ?_⟩
    ·unfold evOr at h; exact z2e (ha.1 g hc.1.1 h)
    ·unfold evOr at h; exact z6x (ha.2.1 g hc.1.1 h)
   | cons _ _ => have := hc.2; unfold q0W at this; cases this
  | cons m ms =>
   cases es with
   | nil => have := hc.2; unfold q0W at this; cases this
   | cons e' es =>
    have B := @hb sg X E (e' :: es) δ pos g hc.2
    refine ⟨λ r h => ?_, λ r h => ?_⟩
    ·unfold evOr at h; exact z6j (λ z hz => ha.1 g hc.1.1 hz) (λ z hz => B.1 z hz) h
    ·unfold evOr at h; exact z3a (λ z hz => ha.2.1 g hc.1.1 hz) (λ z hz => B.2 z hz) h
theorem z7y (ha : SAnd G F ms) : S1 G F (.and ms) := by
 refine .of2 (λ {sg X E e δ r} g hc h => ?_) (λ {sg X E e δ r} g hc h => ?_) (λ _ _ => rfl)
 ·unfold corE at hc
  split at hc
  ·rename_i o es q
   obtain ⟨p, rfl⟩ := q3o q
   simp only [Bool.and_eq_true, beq_iff_eq] at hc
   obtain ⟨h1, h2⟩ := hc
   subst h1
   unfold evE at h
   exact (ha g h2).1 r h
  ·cases hc
 ·unfold corE at hc
  split at hc
  ·rename_i o es q
   obtain ⟨p, rfl⟩ := q3o q
   simp only [Bool.and_eq_true, beq_iff_eq] at hc
   obtain ⟨h1, h2⟩ := hc
   subst h1
   unfold evE at h
   exact ((ha g h2).2 r h).pt
  ·cases hc
theorem s_or (ha : SOr G F ms) : S1 G F (.or ms) := by
 refine .of2 (λ {sg X E e δ r} g hc h => ?_) (λ {sg X E e δ r} g hc h => ?_) (λ _ _ => rfl)
 ·unfold corE at hc
  split at hc
  ·rename_i o es q
   obtain ⟨p, rfl⟩ := q3o q
   simp only [Bool.and_eq_true, beq_iff_eq] at hc
   obtain ⟨h1, h2⟩ := hc
   subst h1
   unfold evE at h
   exact (ha g h2).1 r h
  ·cases hc
 ·unfold corE at hc
  split at hc
  ·rename_i o es q
   obtain ⟨p, rfl⟩ := q3o q
   simp only [Bool.and_eq_true, beq_iff_eq] at hc
   obtain ⟨h1, h2⟩ := hc
   subst h1
   unfold evE at h
   exact ((ha g h2).2 r h).pt
  ·cases hc
end
section
variable {G : Gs} {F : Nat -> List DV -> Option Ou}
mutual
theorem snd : ∀ m : ME, S1 G F m
 | .var _ => z7T
 | .int _ => z7n
 | .bl _ => s_bl
 | .str _ => z7q
 | .non => z7S
 | .glb _ => z7f
 | .bin _ a b => z6T (snd a) (snd b)
 | .not a => z7E (snd a)
 | .cmp _ a b => z7G (snd a) (snd b)
 | .and es => z7y (z2f es)
 | .or es => s_or (z5h es)
 | .ite c a b => z7V (snd c) (snd a) (snd b)
 | .lst es => z7L (sndL es)
 | .tup es => z7j (sndL es)
 | .ix a b => s_ix (snd a) (snd b)
 | .sl a b c => s_sl (snd a) (snd b) (snd c)
 | .slf a b => z7i (snd a) (snd b)
 | .slt a b => z7H (snd a) (snd b)
 | .call _ es => z6g (sndL es)
 | .bi _ es => s_bi (sndL es)
 | .isi a _ => z7r (snd a)
 | .isx a _ => z7g (snd a)
 | .comp a _ b _ => z5G (snd a) (snd b)
 | .compi a _ b c _ => z4v (snd a) (snd b) (snd c)
 | .idx a b => z7d (snd a) (snd b)
 | .rng es => z7U (sndL es)
theorem sndL : ∀ ms : List ME, SEs G F ms
 | [] => z7p
 | a :: ms => z5j (snd a) (sndL ms)
theorem z2f : ∀ ms : List ME, SAnd G F ms
 | [] => z4i
 | a :: ms => z1X (snd a) (z2f ms)
theorem z5h : ∀ ms : List ME, SOr G F ms
 | [] => z6A
 | a :: ms => z4s (snd a) (z5h ms)
end
end
end L2
end
section
namespace L2
open PySem PySem.Spec PyProof.Rows
section
variable (G : Gs) (F : Nat -> List DV -> Option Ou) (fu : Nat)
noncomputable def SS (m : MS) : Prop := ∀ {sg : Sg} {X : Cx} {E : St -> XK} {st : Stmt} {δ : List Sv} {o : Out}, Good sg G F X E -> corS sg m st = true -> evS G F fu m δ = some o -> PS X st (dS X.D E δ o)
noncomputable def SSs (ms : List MS) : Prop := ∀ {sg : Sg} {X : Cx} {E : St -> XK} {sts : List Stmt} {δ : List Sv} {o : Out}, Good sg G F X E -> q2W sg ms sts = true -> evSs G F fu ms δ = some o -> PSs X sts (dS X.D E δ o)
end
section
variable {G : Gs} {F : Nat -> List DV -> Option Ou} {fu : Nat} {e k : ME} {i : Nat}
theorem z5Z : ∀ {e : ME}, q9W e = true -> q4x G F e
 | .comp a _ b _, _ => z2x (snd a) (snd b)
 | .compi a _ b c _, _ => z0C (snd a) (snd b) (snd c)
theorem z7J {own : Bool} : SS G F fu (.set i own e) := by
 intro sg X E st δ o g hc h
 unfold corS at hc
 split at hc
 ·rename_i t v pos
  split at hc
  ·rename_i x pt
   simp only [Bool.and_eq_true, beq_iff_eq, Bool.or_eq_true, Bool.not_eq_true'] at hc
   obtain ⟨⟨⟨h1, h2⟩, h3⟩, h4⟩ := hc
   have l := g.loc x h2
   have hN : X.N[i]? = some x := by rw [g.N]; exact h1
   unfold evS at h
   cases hv : q6J v with
   | false => exact q9N g.nd hN l.1 l.2 (λ z hz => (snd e).1 g h3 hz) (q3w hv) h
   | true =>
    rcases h4 with h4 | h5
    ·rw [hv] at h4; cases h4
    ·cases hr : evE G F e δ with
     | none => rw [hr] at h; cases h
     | some r =>
      obtain ⟨cp, N', fr, tg, p, rfl, S, P, hG, hs⟩ := z5Z h5 g h3 hr
      cases hb : (X.env.blockKind == .function && X.env.kindOf x == some .local && pt.line == (Expr.ListComp cp.elt [⟨cp.tg, cp.it, cp.ifs, 0⟩] cp.sc p).pos.line && !(cp.sc.names.any λ (n, k) => n == x && (k == .local || k == .cell))) with
      | false =>
       have hsw : swapsWith (.ListComp cp.elt [⟨cp.tg, cp.it, cp.ifs, 0⟩] cp.sc p) (some (.Name x pt)) pos.line X.env = pure false := by
        show (pure (X.env.blockKind == .function && X.env.kindOf x == some .local && pt.line == (Expr.ListComp cp.elt [⟨cp.tg, cp.it, cp.ifs, 0⟩] cp.sc p).pos.line && !(cp.sc.names.any λ (n, k) => n == x && (k == .local || k == .cell))) : Sem Bool) = pure false
        rw [hb]
       exact q9N g.nd hN l.1 l.2 (λ z hz => (snd e).1 g h3 hz) hsw h
      | true =>
       have hsw : swapsWith (.ListComp cp.elt [⟨cp.tg, cp.it, cp.ifs, 0⟩] cp.sc p) (some (.Name x pt)) pos.line X.env = pure true := by
        show (pure (X.env.blockKind == .function && X.env.kindOf x == some .local && pt.line == (Expr.ListComp cp.elt [⟨cp.tg, cp.it, cp.ifs, 0⟩] cp.sc p).pos.line && !(cp.sc.names.any λ (n, k) => n == x && (k == .local || k == .cell))) : Sem Bool) = pure true
        rw [hb]
       rw [hr] at h
       have h4 : X.env.kindOf x = some .local := by
        simp only [Bool.and_eq_true, beq_iff_eq] at hb
        exact hb.1.1.2
       exact q6Z S g.calm g.nd hN h4 P hG hs hsw h
  ·cases hc
 ·cases hc
theorem z7P : SS G F fu (.app i e) := by
 intro sg X E st δ o g hc h
 unfold corS at hc
 split at hc
 ·rename_i v pos
  split at hc
  ·rename_i ef ea cpos q
   have := q0F q
   subst this
   split at hc
   ·rename_i ob n apos q2
    have := q4l q2
    subst this
    simp only [Bool.and_eq_true, Bool.not_eq_true'] at hc
    obtain ⟨⟨⟨⟨h1, h2⟩, h3⟩, h4⟩, h5⟩ := hc
    split at h2
    ·rename_i x q3
     obtain ⟨np, rfl⟩ := q0t q3
     obtain ⟨s1, s2, s3, s4⟩ := q5g g h2
     have hn : n = "append" := beq_iff_eq.mp h1
     subst hn
     unfold evS at h
     exact q8m (q5W s1 s2 s3 s4) (λ z hz => (snd e).1 g h3 hz) h4 h5 h
    ·cases h2
   ·cases hc
  ·cases hc
 ·cases hc
theorem z6W : SS G F fu (.ext i e) := by
 intro sg X E st δ o g hc h
 unfold corS at hc
 split at hc
 ·rename_i v pos
  split at hc
  ·rename_i ef ea cpos q
   have := q0F q
   subst this
   split at hc
   ·rename_i ob n apos q2
    have := q4l q2
    subst this
    simp only [Bool.and_eq_true, Bool.not_eq_true'] at hc
    obtain ⟨⟨⟨⟨h1, h2⟩, h3⟩, h4⟩, h5⟩ := hc
    split at h2
    ·rename_i x q3
     obtain ⟨np, rfl⟩ := q0t q3
     obtain ⟨s1, s2, s3, s4⟩ := q5g g h2
     have hn : n = "extend" := beq_iff_eq.mp h1
     subst hn
     unfold evS at h
     exact q8T (q5W s1 s2 s3 s4) (λ z hz => (snd e).1 g h3 hz) h4 h5 h
    ·cases h2
   ·cases hc
  ·cases hc
 ·cases hc
theorem z6q : SS G F fu (.seti i k e) := by
 intro sg X E st δ o g hc h
 unfold corS at hc
 split at hc
 ·rename_i t v pos
  split at hc
  ·rename_i ob ek q
   obtain ⟨sp, rfl⟩ := q1z q
   simp only [Bool.and_eq_true, Bool.not_eq_true'] at hc
   obtain ⟨⟨⟨h2, h3⟩, h4⟩, h5⟩ := hc
   split at h2
   ·rename_i x q3
    obtain ⟨np, rfl⟩ := q0t q3
    obtain ⟨s1, s2, s3, s4⟩ := q5g g h2
    unfold evS at h
    exact q9x (q5W s1 s2 s3 s4) (λ z hz => (snd e).1 g h5 hz) (λ z hz => (snd k).1 g h3 hz) h4 h
   ·cases h2
  ·cases hc
 ·cases hc
theorem z7A : SS G F fu (.exp e) := by
 intro sg X E st δ o g hc h
 unfold corS at hc
 split at hc
 ·simp only [Bool.and_eq_true, Bool.not_eq_true'] at hc
  unfold evS at h
  exact z3f (λ z hz => (snd e).1 g hc.1 hz) hc.2 h
 ·cases hc
theorem z8g : SS G F fu (.ret e) := by
 intro sg X E st δ o g hc h
 unfold corS at hc
 split at hc
 ·unfold evS at h
  exact z4g (λ z hz => (snd e).1 g hc hz) h
 ·cases hc
theorem z7v {c : Str} : SS G F fu (.rse c e) := by
 intro sg X E st δ o g hc h
 unfold corS at hc
 split at hc
 ·rename_i v pos
  split at hc
  ·rename_i ef ea cpos q
   have := q0F q
   subst this
   simp only [Bool.and_eq_true, Bool.not_eq_true', beq_iff_eq, bne_iff_ne, ne_eq] at hc
   obtain ⟨⟨⟨⟨⟨h0, h1⟩, h2⟩, h3⟩, h4⟩, h5⟩ := hc
   obtain ⟨np, rfl⟩ := q0t h1
   unfold evS at h
   exact q9h g.xf g.calm (g.glo c h2) (beq_eq_false_iff_ne.mpr h3) (g.st h0).2.2.2 (λ z hz => (snd e).1 g h4 hz) h5 h
  ·cases hc
 ·cases hc
theorem z7Y {body : List MS} {c : Str} {ie ic : Nat} (hb : SSs G F fu body) : SS G F fu (.tryc body c ie ic) := by
 intro sg X E st δ o g hc h
 unfold corS at hc
 split at hc
 ·rename_i b hd pos
  cases hd with
  | ExceptHandler t n bd hp =>
  simp only [Bool.and_eq_true, q6s] at hc
  obtain ⟨⟨h0, h1⟩, h2⟩ := hc
  split at h2
  ·rename_i t' n' t2 v2 ap q
   simp only [Option.some.injEq, Prod.mk.injEq] at q
   obtain ⟨rfl, rfl, rfl⟩ := q
   simp only [Bool.and_eq_true, beq_iff_eq, bne_iff_ne, ne_eq, List.contains_iff_mem] at h2
   obtain ⟨⟨⟨⟨⟨⟨⟨⟨⟨⟨k1, k2⟩, k3⟩, k4⟩, k5⟩, k6⟩, k7⟩, k8⟩, k9⟩, k10⟩, k11⟩ := h2
   split at k10
   ·rename_i x q2
    simp only [Bool.and_eq_true, beq_iff_eq] at k10
    obtain ⟨tp, rfl⟩ := q0t q2
    obtain ⟨vp, rfl⟩ := q0t k9
    obtain ⟨np, rfl⟩ := q0t k1
    have l := g.loc x k10.2
    obtain ⟨s1, s2, s3, _⟩ := g.st h0
    unfold evS at h
    exact z3s g.xf s1 s2 s3 (g.glo c k2) k4 (beq_eq_false_iff_ne.mpr k3) g.nd (by rw [g.N]; exact k5) (g.lcl _ k6) (beq_eq_false_iff_ne.mpr k7) (beq_eq_false_iff_ne.mpr k8) (by rw [g.N]; exact k10.1) l.1 l.2
     (λ pins E' q hq => hb (z1t g pins E') h1 hq) h
   ·cases k10
  ·cases h2
 ·cases hc
theorem z7I : SS G F fu (.frz i) := by
 intro sg X E st δ o g hc h
 unfold corS at hc
 cases hc
variable {a b body : List MS} {c : ME} {tg : Tg}
theorem z7N (ha : SSs G F fu a) (hb : SSs G F fu b) : SS G F fu (.iff c a b) := by
 intro sg X E st δ o g hc h
 unfold corS at hc
 split at hc
 ·simp only [Bool.and_eq_true] at hc
  unfold evS at h
  exact z5c (λ z hz => (snd c).2.1 g hc.1.1 hz) (λ z hz => ha g hc.1.2 hz) (λ z hz => hb g hc.2 hz) h
 ·cases hc
theorem t_fo (hb : SSs G F fu body) : SS G F fu (.fo tg e body) := by
 intro sg X E st δ o g hc h
 unfold corS at hc
 split at hc
 ·simp only [Bool.and_eq_true, Bool.not_eq_true', Bool.or_eq_true] at hc
  obtain ⟨⟨⟨⟨h0, h1⟩, h2, h3⟩, h4⟩, h5⟩ := hc
  unfold evS at h
  exact z2M (g.own h0) g.calm (λ z hz => (snd e).2.2 g h2 (λ w => by
   rcases h3 with q | q
   ·rw [w] at q; cases q
   ·exact q) hz) (q9C g h1) (λ δ' o' ho => hb g h5 ho) h4 h
 ·cases hc
theorem z5J : SSs G F fu [] := by
 intro sg X E sts δ o g hc h
 cases sts with
 | nil => unfold evSs at h; cases h; exact z3W
 | cons a b => unfold q2W at hc; cases hc
theorem z6c {ms : List MS} (hb : SSs G F fu ms) : SSs G F fu (.frz i :: ms) := by
 intro sg X E sts δ o g hc h
 have hc' : q2W sg ms sts = true := by unfold q2W at hc; exact hc
 unfold evSs at h
 have key : evS G F fu (.frz i) δ = (match δ[i]? with | some (.own d) => some (.nx (δ.set i (.val d))) | _ => some (.nx δ)) := by unfold evS; rfl
 rw [key] at h
 cases q : δ[i]? with
 | none => rw [q] at h; exact hb g hc' h
 | some sv =>
  rw [q] at h
  cases sv with
  | own d => exact q8k q (hb g hc' h)
  | no => exact hb g hc' h
  | val d => exact hb g hc' h
  | ot d => exact hb g hc' h
  | o2 d => exact hb g hc' h
theorem q1S {m : MS} {ms : List MS} (ha : SS G F fu m) (hb : SSs G F fu ms) (hm : ∀ i, m ≠ .frz i) : SSs G F fu (m :: ms) := by
 intro sg X E sts δ o g hc h
 cases sts with
 | nil =>
  exfalso
  cases m <;> first | exact hm _ rfl | (unfold q2W at hc; cases hc)
 | cons st sts =>
  have hc' : corS sg m st = true /\ q2W sg ms sts = true := by
   cases m <;> first | exact absurd rfl (hm _) | (unfold q2W at hc; rw [Bool.and_eq_true] at hc; exact hc)
  unfold evSs at h
  split at h
  ·rename_i δ' q
   exact z1B (ha g hc'.1 q) (hb g hc'.2 h)
  ·rename_i hne
   have A := ha g hc'.1 h
   cases o with
   | nx δ' => exact absurd h (hne δ')
   | rt d fr => exact z6P A
   | rtt d => exact z2R A
   | ex c δ' => exact z6G A
end
section
variable {G : Gs} {F : Nat -> List DV -> Option Ou} {fu : Nat}
mutual
theorem sndS : ∀ m : MS, SS G F fu m
 | .set _ _ _ => z7J
 | .app _ _ => z7P
 | .ext _ _ => z6W
 | .seti _ _ _ => z6q
 | .exp _ => z7A
 | .ret _ => z8g
 | .iff _ a b => z7N (q2I a) (q2I b)
 | .fo _ _ body => t_fo (q2I body)
 | .rse _ _ => z7v
 | .tryc body _ _ _ => z7Y (q2I body)
 | .frz _ => z7I
theorem q2I : ∀ ms : List MS, SSs G F fu ms
 | [] => z5J
 | .frz _ :: ms => z6c (q2I ms)
 | .set i o e :: ms => q1S (sndS (.set i o e)) (q2I ms) (by intro i z; cases z)
 | .app i o :: ms => q1S (sndS (.app i o)) (q2I ms) (by intro i z; cases z)
 | .ext i o :: ms => q1S (sndS (.ext i o)) (q2I ms) (by intro i z; cases z)
 | .seti i k o :: ms => q1S (sndS (.seti i k o)) (q2I ms) (by intro i z; cases z)
 | .exp e :: ms => q1S (sndS (.exp e)) (q2I ms) (by intro i z; cases z)
 | .ret e :: ms => q1S (sndS (.ret e)) (q2I ms) (by intro i z; cases z)
 | .iff c a b :: ms => q1S (sndS (.iff c a b)) (q2I ms) (by intro i z; cases z)
 | .fo t i b :: ms => q1S (sndS (.fo t i b)) (q2I ms) (by intro i z; cases z)
 | .rse c e :: ms => q1S (sndS (.rse c e)) (q2I ms) (by intro i z; cases z)
 | .tryc a b c d :: ms => q1S (sndS (.tryc a b c d)) (q2I ms) (by intro i z; cases z)
end
end
end L2
end
section
namespace L2
open PySem PySem.Spec PyProof.Rows
theorem RSt.start {D : Dm} {H : Hp} {N : List Str} {ds : List DV} {vs : List V} {O : List Addr} {n : Nat} (hn : n = N.length) (r : RepL D (L2.wo O H) ds vs) (ho : ∀ a ∈ O, H a ≠ none) : RSt D H (L2.start N vs) (q0q n ds) O [] := by
 subst hn
 have ino : ∀ (i : Nat) ds', (q0q N.length ds)[i]? ≠ some (.own ds') := λ i ds' h => by
  unfold q0q at h
  by_cases hi : i < (ds.map Sv.val).length
  ·rw [List.getElem?_append_left hi, List.getElem?_map] at h
   cases q : ds[i]? with
   | none => rw [q] at h; cases h
   | some d => rw [q] at h; cases h
  ·rw [List.getElem?_append_right (by omega), List.getElem?_replicate] at h
   split at h <;> cases h
 have iot : ∀ (i : Nat) ds', (q0q N.length ds)[i]? ≠ some (.ot ds') := λ i ds' h => by
  unfold q0q at h
  by_cases hi : i < (ds.map Sv.val).length
  ·rw [List.getElem?_append_left hi, List.getElem?_map] at h
   cases q : ds[i]? with
   | none => rw [q] at h; cases h
   | some d => rw [q] at h; cases h
  ·rw [List.getElem?_append_right (by omega), List.getElem?_replicate] at h
   split at h <;> cases h
 have io2 : ∀ (i : Nat) ds', (q0q N.length ds)[i]? ≠ some (.o2 ds') := λ i ds' h => by
  unfold q0q at h
  by_cases hi : i < (ds.map Sv.val).length
  ·rw [List.getElem?_append_left hi, List.getElem?_map] at h
   cases q : ds[i]? with
   | none => rw [q] at h; cases h
   | some d => rw [q] at h; cases h
  ·rw [List.getElem?_append_right (by omega), List.getElem?_replicate] at h
   split at h <;> cases h
 refine ⟨λ i d h => ?_, λ i ds' h => absurd h (ino i ds'), λ i j a d1 d2 h => absurd h (ino i d1), λ i d h => absurd h (iot i d), λ i d h => absurd h (io2 i d), ?_, ⟨λ a ha => ho a (by simpa using ha), Same.refl _, λ a ha => (nomatch ha), λ a ha => (nomatch ha)⟩⟩
 ·unfold q0q at h
  by_cases hi : i < (ds.map Sv.val).length
  ·rw [List.getElem?_append_left hi, List.getElem?_map] at h
   cases q : ds[i]? with
   | none => rw [q] at h; cases h
   | some d' =>
    rw [q] at h
    cases h
    obtain ⟨v, e1, e2⟩ := r.get q
    refine ⟨v, ?_, by rw [List.append_nil]; exact e2⟩
    unfold L2.start
    rw [List.getElem?_append_left (by rw [List.length_map]; exact (List.getElem?_eq_some_iff.mp e1).1), List.getElem?_map, e1]
    rfl
  ·rw [List.getElem?_append_right (by omega), List.getElem?_replicate] at h
   split at h <;> cases h
 ·unfold L2.start q0q
  rw [List.length_append, List.length_append, List.length_map, List.length_map, List.length_replicate, List.length_replicate, r.length]
structure FunD (K : PySem.W.Frag) (x qual : Str) (st : Stmt) (f : Addr) (fd : FuncData) : Prop where
 ex : ∃ (oc : Value) (od : Option Addr) (dV kV doc pm : Value) (an : Option Addr) (cdv ct : Value) (osl : Array (Option Value)),
  fd = PySem.W.fnOf x qual (q0r st) (q0l st) (q0c st) dV kV doc pm an cdv ct /\ K.lookup f = some ⟨oc, od, .func fd, osl⟩ /\ PySem.W.codeIn K cdv qual = true
theorem FunD.okX {P : Program} {w : World} {K : PySem.W.Frag} {mg : Str -> Option Value} {base : Heap} {x qual : Str} {st : Stmt} {f : Addr} {fd : FuncData} {N ps : List Str} {k : Nat} {sp : Sp} (F : FunD K x qual st f fd) (S : FnScope N ps (q0c st)) (len : ∀ vs H Q E, sp vs H Q E -> vs.length = ps.length)
  (hbody : ∀ (cdv : Value) (A : Around) (outer : List Env) (s : Shared) (H : Hp) (vs : List V) (Q : VK) (E : XK), Room k (A.deeper (envOfC qual (q0c st) s.heap.objs.size f cdv)) -> sp vs H Q E ->
   ∃ t, PSs (cxD P w K mg base N qual (q0c st) f cdv A outer s H E) (q0l st) t /\ t { nx := λ _ H' => Q .non H', rt := Q } (start N vs) H) : FnOk P w K mg base (CXx P w base) (k + 1) f fd ps sp := by
 obtain ⟨oc, od, dV, kV, doc, pm, an, cdv, ct, osl, rfl, lk, hcd⟩ := F.ex
 exact z7h lk hcd S len λ A outer s H vs Q E hr hsp => hbody cdv A outer s H vs Q E hr hsp
noncomputable def DfOk (G : Gs) (T : List FD) : Prop := (∀ f ds, G.dfl.lookup f = some ds -> ∃ d, T[f]? = some d /\ d.dfl = ds /\ ds ≠ []) /\ ∀ f n, G.kws.lookup f = some n -> ∃ d, T[f]? = some d /\ d.kn = some n
structure Stands (K : PySem.W.Frag) (mg : Str -> Option Value) (fn bl cl : List Str) (d : FD) (x : Str) (fa : Addr) (fd : FuncData) (ps : List Str) : Prop where
 dk : (d.dfl ≠ [] -> ∃ us dvs, q4u K fd ps us /\ Vals dvs us /\ ∀ H, RepL ⟨K, mg⟩ H d.dfl dvs) /\ ∀ n, d.kn = some n -> KBinds K fd ps [n] (q3W ps.length) (q3W ps.length)
 mg : mg x = some (.ref fa)
 kp : PySem.W.keepIn K (.ref fa) = true
 bi : q4u K fd ps []
 np : d.np = ps.length
 ex : ∃ qual st N, FunD K x qual st fa fd /\ FnScope N ps (q0c st) /\ d.n = N.length /\ q2W ⟨N, (q0c st).names, fn, bl, cl, true, true⟩ d.body (q0l st) = true
section
variable {P : Program} {w : World} {K : PySem.W.Frag} {mg : Str -> Option Value} {base : Heap} {G : Gs} {T : List FD} {fu : Nat} {fn bl cl : List Str}
theorem z2c (hT : T.length = fn.length) (hs : ∀ (i : Nat) d x, T[i]? = some d -> fn[i]? = some x -> ∃ fa fd ps, Stands K mg fn bl cl d x fa fd ps) (hbl : ∀ x ∈ bl, mg x = none) (hxf : XFacts K mg G cl)
  (hcon : ∀ x d, G.con.lookup x = some d -> ∃ u v, mg x = some u /\ RelV v u /\ ∀ H, Rep ⟨K, mg⟩ H d v) (hdc : ∀ x kvs, G.dcs.lookup x = some kvs -> q9H K w mg x kvs) (hdf : DfOk G T) : ∀ (k i : Nat) d x fa fd ps, T[i]? = some d -> fn[i]? = some x -> Stands K mg fn bl cl d x fa fd ps ->
  FnOk P w K mg base (CXx P w base) k fa fd ps (spF ⟨K, mg⟩ ps.length (run G T fu k i))
 | 0, i, d, x, fa, fd, ps, h1, h2, S => by
  refine ⟨λ vs H Q E h => ?_, λ A outer s H args us vs Q E hr he hb hv h => ?_⟩
  ·obtain ⟨_, _, _, _, _, _, q, _⟩ := h
   cases q
  ·obtain ⟨_, _, _, _, _, _, q, _⟩ := h
   cases q
 | k + 1, i, d, x, fa, fd, ps, h1, h2, S => by
  obtain ⟨qual, st, N, F, FS, hn, hc⟩ := S.ex
  refine F.okX FS (λ vs H Q E h => ?_) (λ cdv A outer s H vs Q E hr h => ?_)
  ·obtain ⟨O, ds, o, _, e1, e2, _⟩ := h
   rw [e2.length, e1]
  ·obtain ⟨O, ds, o, ho, e1, e2, e3, e4⟩ := h
   have e3' : (match T[i]? with | none => none | some fd => if ds.length = fd.np then Ou.of (evSs G (run G T fu k) fu fd.body (q0q fd.n ds)) else none) = some o := e3
   rw [h1] at e3'
   have e3'' : (if ds.length = d.np then Ou.of (evSs G (run G T fu k) fu d.body (q0q d.n ds)) else none) = some o := e3'
   rw [if_pos (e1.trans S.np.symm)] at e3''
   have g : Good ⟨N, (q0c st).names, fn, bl, cl, true, true⟩ G (run G T fu k) (cxD P w K mg base N qual (q0c st) fa cdv A outer s H E) (λ _ => E) := by
    refine ⟨rfl, FS.nd, λ y hy => ?_, λ y hy => ?_, λ y hy => ⟨?_, .inl rfl⟩, λ y hy => hy, λ y hy => hy, rfl, hr.units, λ f y hy => ?_, hbl, q8t.s, hcon, λ _ => PassesOwn.leaving, hxf, λ _ => ⟨rfl, rfl, rfl, q8C⟩, hdc⟩
    ·unfold visB at hy
     simp only [Bool.or_eq_true, beq_iff_eq] at hy
     rcases hy with (hy | hy) | hy
     ·exact .inl hy
     ·exact .inr (.inl hy)
     ·exact .inr (.inr hy)
    ·unfold gloB at hy
     rw [beq_iff_eq] at hy
     exact hy
    ·unfold locB at hy
     simp only [Bool.or_eq_true, beq_iff_eq] at hy
     exact hy
    ·have hf : f < T.length := by rw [hT]; exact (List.getElem?_eq_some_iff.mp hy).1
     obtain ⟨d', hd'⟩ : ∃ d', T[f]? = some d' := ⟨_, List.getElem?_eq_getElem hf⟩
     obtain ⟨fa', fd', ps', S'⟩ := hs f d' y hd' hy
     refine ⟨k, fa', fd', ps', hr, S'.mg, S'.kp, S'.bi, λ ds o q => ?_, z2c hT hs hbl hxf hcon hdc hdf k f d' y fa' fd' ps' hd' hy S', ?_, ?_⟩
     rotate_left
     ·intro ds q
      obtain ⟨d2, q1, q2, q3⟩ := hdf.1 f ds q
      rw [hd'] at q1; cases q1
      have := S'.dk.1 (by rw [q2]; exact q3)
      rw [q2] at this
      exact this
     ·intro n q
      obtain ⟨d2, q1, q2⟩ := hdf.2 f n q
      rw [hd'] at q1; cases q1
      exact S'.dk.2 n q2
     cases k with
     | zero => cases q
     | succ k =>
      have q' : (match T[f]? with | none => none | some fd => if ds.length = fd.np then Ou.of (evSs G (run G T fu k) fu fd.body (q0q fd.n ds)) else none) = some o := q
      rw [hd'] at q'
      have q'' : (if ds.length = d'.np then Ou.of (evSs G (run G T fu k) fu d'.body (q0q d'.n ds)) else none) = some o := q'
      split at q''
      ·rename_i z; rw [z, S'.np]
      ·cases q''
   cases ho' : evSs G (run G T fu k) fu d.body (q0q d.n ds) with
   | none => rw [ho'] at e3''; cases e3''
   | some oo =>
    rw [ho'] at e3''
    refine ⟨_, q2I d.body g hc ho', H, O, [], RSt.start hn e2 ho, (λ a ha => (nomatch ha)), ho, Same.refl H, ?_⟩
    cases oo with
    | nx δ => cases e3''; exact λ σ' H' W R fr sm => e4 .non H' sm (show Rep ⟨K, mg⟩ (L2.wo O H') .non .non by unfold Rep; rfl)
    | rt d fr => cases e3''; exact λ v H' sm gt => e4 v H' sm gt
    | rtt d => cases e3''; exact λ v H' sm gt => e4 v H' sm gt
    | ex c δ => cases e3''; exact λ σ' H' W C hm R fr sm => e4 H' C hm sm
end
end L2
end
section
namespace L2
open PySem PySem.Spec PyProof.Rows
noncomputable def okD (fn bl cl : List Str) (d : FD) (N ps : List Str) (st : Stmt) : Bool :=
 (q0c st).kind == .function && !(q0c st).isCoroutine && !(q0c st).isGenerator && q4S N && (N.take ps.length == ps) &&
 ps.all (λ x => (q0c st).names.lookup x == some .local || (q0c st).names.lookup x == some .cell) && (q0c st).names.all (λ y => !(y.2 == .free)) &&
 d.n == N.length && d.np == ps.length && q2W ⟨N, (q0c st).names, fn, bl, cl, true, true⟩ d.body (q0l st)
section
variable {P : Program} {w : World} {K : PySem.W.Frag} {mg : Str -> Option Value} {base h : Heap} {G : Gs} {T : List FD} {fu : Nat} {fn bl cl : List Str}
theorem q8R {d : FD} {x : Str} {N ps : List Str} {st : Stmt} {f : Addr} {oc : Value} {od an : Option Addr} {osl : Array (Option Value)} {dV kV doc pm cdv ct : Value} (X : K.In h) (Ns : h.Ns mainGlobals mg) (ok : okD fn bl cl d N ps st = true)
  (a : PySem.W.nsIn K mainGlobals x = some (some (.ref f))) (l : K.lookup f = some ⟨oc, od, .func (PySem.W.fnOf x x (q0r st) (q0l st) (q0c st) dV kV doc pm an cdv ct), osl⟩)
  (c : PySem.W.codeIn K cdv x = true) (k : PySem.W.keepIn K (.ref f) = true)
  (hb : q4u K (PySem.W.fnOf x x (q0r st) (q0l st) (q0c st) dV kV doc pm an cdv ct) ps [])
  (dk : (d.dfl ≠ [] -> ∃ us dvs, q4u K (PySem.W.fnOf x x (q0r st) (q0l st) (q0c st) dV kV doc pm an cdv ct) ps us /\ Vals dvs us /\ ∀ H, RepL ⟨K, mg⟩ H d.dfl dvs) /\ ∀ n, d.kn = some n -> KBinds K (PySem.W.fnOf x x (q0r st) (q0l st) (q0c st) dV kV doc pm an cdv ct) ps [n] (q3W ps.length) (q3W ps.length)) :
  Stands K mg fn bl cl d x f (PySem.W.fnOf x x (q0r st) (q0l st) (q0c st) dV kV doc pm an cdv ct) ps := by
 unfold okD at ok
 simp only [Bool.and_eq_true, beq_iff_eq, Bool.not_eq_true', List.all_eq_true, Bool.or_eq_true, beq_eq_false_iff_ne] at ok
 obtain ⟨⟨⟨⟨⟨⟨⟨⟨⟨h1, h2⟩, h3⟩, h4⟩, h5⟩, h6⟩, h7⟩, h8⟩, h9⟩, h10⟩ := ok
 exact ⟨dk, PySem.W.mg_of X Ns a, k, hb, h9, x, st, N, ⟨oc, od, dV, kV, doc, pm, an, cdv, ct, osl, rfl, l, c⟩, ⟨h1, h2, h3, q2x h4, h5, h6, h7⟩, h8, h10⟩
theorem q0o {d : FD} {x : Str} {N ps : List Str} {st : Stmt} {f : Addr} {oc : Value} {od an : Option Addr} {osl : Array (Option Value)} {kV doc pm cdv ct : Value} (X : K.In h) (Ns : h.Ns mainGlobals mg) (ok : okD fn bl cl d N ps st = true)
  (a : PySem.W.nsIn K mainGlobals x = some (some (.ref f))) (l : K.lookup f = some ⟨oc, od, .func (PySem.W.fnOf x x (q0r st) (q0l st) (q0c st) .none kV doc pm an cdv ct), osl⟩)
  (c : PySem.W.codeIn K cdv x = true) (k : PySem.W.keepIn K (.ref f) = true)
  (hb : ∀ (kV doc pm : Value) (an : Option Addr) (cdv ct : Value) (us : List Value), us.length = ps.length -> bindArgs (PySem.W.fnOf x x (q0r st) (q0l st) (q0c st) .none kV doc pm an cdv ct) ⟨us, []⟩ = pure (ps.zip us)) (e1 : d.dfl = [] := by rfl) (e2 : d.kn = none := by rfl) :
  Stands K mg fn bl cl d x f (PySem.W.fnOf x x (q0r st) (q0l st) (q0c st) .none kV doc pm an cdv ct) ps :=
 q8R X Ns ok a l c k (.all (hb kV doc pm an cdv ct)) ⟨λ z => absurd e1 z, λ n z => by rw [e2] at z; cases z⟩
theorem z5M {fd : FuncData} {ps : List Str} {n : Str} (h : ∀ (s : Shared) (us : List Value) (w : Value), K.In s.heap -> us.length + 1 = ps.length -> BindsTo s fd ⟨us, [(n, w)]⟩ (ps.zip (us ++ [w]))) (hp : ps ≠ []) : KBinds K fd ps [n] (q3W ps.length) (q3W ps.length) := by
 refine ⟨λ s us ws hK hl => ?_, λ r q => z0j r q⟩
 unfold q3W at hl ⊢
 split at hl
 ·rename_i c
  rw [if_pos c]
  obtain ⟨w, rfl⟩ := List.length_eq_one_iff.mp c.2
  exact h s us w hK c.1
 ·exact absurd (List.length_eq_zero_iff.mp hl.symm) hp
theorem z3d {G : Gs} {T : List FD} (e1 : G.dfl = [] := by rfl) (e2 : G.kws = [] := by rfl) : DfOk G T := ⟨λ f ds q => (by rw [e1] at q; cases q), λ f n q => (by rw [e2] at q; cases q)⟩
noncomputable def HS (K : PySem.W.Frag) (mg : Str -> Option Value) (fn bl cl : List Str) (T : List FD) (fs : List Str) : Prop := ∀ (i : Nat) d x, T[i]? = some d -> fs[i]? = some x -> ∃ fa fd ps, Stands K mg fn bl cl d x fa fd ps
theorem z5p {fs : List Str} : HS K mg fn bl cl [] fs := λ i d x h => by cases h
theorem q0G {d : FD} {x : Str} {fs : List Str} {fa : Addr} {fd : FuncData} {ps : List Str} (h : Stands K mg fn bl cl d x fa fd ps) (t : HS K mg fn bl cl T fs) : HS K mg fn bl cl (d :: T) (x :: fs) := λ i d' x' h1 h2 => by
 cases i with
 | zero => cases h1; cases h2; exact ⟨_, _, _, h⟩
 | succ i => exact t i d' x' h1 h2
theorem z6y {H : Hp} : L2.wo [] H = H := by
 funext b
 unfold L2.wo
 simp
noncomputable def HC (K : PySem.W.Frag) (mg : Str -> Option Value) (c : List (Str × DV)) : Prop := ∀ x d, c.lookup x = some d -> ∃ u v, mg x = some u /\ RelV v u /\ ∀ H, Rep ⟨K, mg⟩ H d v
theorem z2J : HC K mg [] := λ x d h => by cases h
theorem z1o {c : List (Str × DV)} {y : Str} {d : DV} (h : ∃ u v, mg y = some u /\ RelV v u /\ ∀ H, Rep ⟨K, mg⟩ H d v) (t : HC K mg c) : HC K mg ((y, d) :: c) := λ x d' q => by
 rw [List.lookup_cons] at q
 split at q
 ·rename_i e
  cases q
  rw [eq_of_beq e]
  exact h
 ·exact t x d' q
noncomputable def OneL (K : PySem.W.Frag) (mg : Str -> Option Value) (G : Gs) (cl : List Str) (l : List (Str × List Str)) : Prop := ∀ c, (l.lookup c).isSome = true -> ∃ C, XOne K mg G cl c C
theorem z3D {cl : List Str} : OneL K mg G cl [] := λ c h => by cases h
theorem q4g {cl : List Str} {c : Str} {b : List Str} {l : List (Str × List Str)} (h : ∃ C, XOne K mg G cl c C) (t : OneL K mg G cl l) : OneL K mg G cl ((c, b) :: l) := λ c' q => by
 rw [List.lookup_cons] at q
 split at q
 ·rename_i e
  rw [eq_of_beq e]
  exact h
 ·exact t c' q
noncomputable def AllL (mg : Str -> Option Value) (l : List Str) : Prop := ∀ t ∈ l, ∃ Ct, mg t = some (.ref Ct)
theorem all_nil : AllL mg [] := λ t h => by cases h
theorem all_cons {t : Str} {l : List Str} (h : ∃ Ct, mg t = some (.ref Ct)) (r : AllL mg l) : AllL mg (t :: l) := λ t' q => by
 rcases List.mem_cons.mp q with e | e
 ·rw [e]; exact h
 ·exact r t' e
noncomputable def OwnL (K : PySem.W.Frag) (mg : Str -> Option Value) (G : Gs) (c : Str) (C : Addr) (l : List Str) : Prop := ∀ t ∈ l, ∀ Ct, mg t = some (.ref Ct) -> PySem.W.kitOne K (.ref C) (.ref Ct) = some (q1J G c t) /\ (q1J G c t = true -> PySem.W.exmOne K (.ref C) (.ref Ct) = some true)
theorem q5O {c : Str} {C : Addr} : OwnL K mg G c C [] := λ t h => by cases h
theorem q0M {c t : Str} {C Ct : Addr} {l : List Str} (m : mg t = some (.ref Ct)) (h : PySem.W.kitOne K (.ref C) (.ref Ct) = some (q1J G c t) /\ (q1J G c t = true -> PySem.W.exmOne K (.ref C) (.ref Ct) = some true)) (r : OwnL K mg G c C l) : OwnL K mg G c C (t :: l) := λ t' q Ct' m' => by
 rcases List.mem_cons.mp q with e | e
 ·subst e
  cases m.symm.trans m'
  exact h
 ·exact r t' e Ct' m'
noncomputable def spS (K : PySem.W.Frag) : Sp := λ vs H Q _ => ∃ (a : Addr) (ns : List Int), vs = [.ref a] /\ ns.length <= 63 /\ SqS K H a (ns.map V.int) /\ ∀ H', Q (.bl true) H'
noncomputable def DCL (K : PySem.W.Frag) (w : World) (mg : Str -> Option Value) (l : List (Str × List (Str × Str))) : Prop := ∀ x kvs, l.lookup x = some kvs -> q9H K w mg x kvs
theorem z3Q {w : World} : DCL K w mg [] := λ x kvs h => by cases h
theorem z6R {w : World} {y : Str} {kv : List (Str × Str)} {l : List (Str × List (Str × Str))} (h : q9H K w mg y kv) (t : DCL K w mg l) : DCL K w mg ((y, kv) :: l) := λ x kvs q => by
 rw [List.lookup_cons] at q
 split at q
 ·rename_i e
  cases q
  rw [beq_iff_eq.mp e]
  exact h
 ·exact t x kvs q
noncomputable def KVL (K : PySem.W.Frag) (a : Addr) (l : List (Str × Str)) : Prop := ∀ k v, l.lookup k = some v -> v.length <= sizeLine /\ ∃ t, PySem.W.nsIn K a k = some (some (.str v t))
theorem z8f {a : Addr} : KVL K a [] := λ k v h => by cases h
theorem z6S {a : Addr} {k v : Str} {t : Tok} {l : List (Str × Str)} (h1 : v.length <= sizeLine) (h2 : PySem.W.nsIn K a k = some (some (.str v t))) (r : KVL K a l) : KVL K a ((k, v) :: l) := λ k' v' q => by
 rw [List.lookup_cons] at q
 split at q
 ·rename_i e
  cases q
  rw [beq_iff_eq.mp e]
  exact ⟨h1, t, h2⟩
 ·exact r k' v' q
theorem z1w {k i : Nat} {d : FD} {x p : Str} {fa : Addr} {fd : FuncData} (hT : T.length = fn.length) (hs : HS K mg fn bl cl T fn) (hbl : ∀ x ∈ bl, mg x = none) (hxf : XFacts K mg G cl)
  (hcon : ∀ x d, G.con.lookup x = some d -> ∃ u v, mg x = some u /\ RelV v u /\ ∀ H, Rep ⟨K, mg⟩ H d v) (hdc : ∀ x kvs, G.dcs.lookup x = some kvs -> q9H K w mg x kvs) (hdf : DfOk G T) (h1 : T[i]? = some d) (h2 : fn[i]? = some x) (S : Stands K mg fn bl cl d x fa fd [p])
  (law : ∀ ns : List Int, ns.length <= 63 -> run G T fu k i [.scr ns] = some (.v (.bl true) false)) : FnOk P w K mg base CX0 k fa fd [p] (spS K) := by
 have R := z2c (P := P) (w := w) (base := base) (fu := fu) hT hs hbl hxf hcon hdc hdf k i d x fa fd [p] h1 h2 S
 refine ⟨λ vs H Q E h => ?_, λ A outer s H args us vs Q E hr he hb hv h => ?_⟩
 ·obtain ⟨a, ns, rfl, _⟩ := h
  rfl
 ·obtain ⟨a, ns, rfl, hl, hS, hq⟩ := h
  refine codeAny_mono (R.run A outer s H args us [.ref a] Q E0 hr he hb hv ⟨[], [.scr ns], _, (λ a ha => (nomatch ha)), rfl, ?_, law ns hl, λ v H' _ g => ?_⟩) λ r s' q => ?_
  ·refine RepL.one (q1V.mpr ⟨a, rfl, ?_⟩)
   rw [z6y]
   exact hS
  ·have g' : Rep ⟨K, mg⟩ (L2.wo [] H') (.bl true) v := g
   rw [q3M] at g'
   subst g'
   exact hq H'
  ·cases r with
   | error e =>
    obtain ⟨_, _, _, _, _, _, _, _, _, _, z⟩ := (q : CXx P w base outer H s E0 e s')
    exact z.elim
   | ok fl => cases fl <;> first | exact False.elim q | exact q
end
theorem walkE {l : PySem.W.OpenLaw} {q : Program} {loose : List Str} {XP : (Str -> Option Value) -> Heap -> Prop} {YP : World -> Heap -> Prop} {d : DefRec} {K : Params -> PySem.W.Frag} {k : Nat} {p : Str} (hn : l.most = some 63) (hdf : d.params.defaults = []) (hr : Room k callerA)
  (hY : ∀ (w : World) (h : Heap), YP w h -> (K w.params).In h)
  (F : ∀ (w : World) (mg : Str -> Option Value) (fa : Addr) (h : Heap), (K w.params).In h -> h.Ns mainGlobals mg -> mg d.name = some (.ref fa) ->
   ∃ fd : FuncData, (∀ (s : Shared) (u : Value), BindsTo s fd ⟨[u], []⟩ [(p, u)]) /\ ∀ base : Heap, (K w.params).In base -> base.Ns mainGlobals mg -> FnOk l.prog w (K w.params) mg base CX0 k fa fd [p] (spS (K w.params))) :
  PySem.W.WalkO q loose XP YP l.row.toRowW d [] (λ f vs => PySem.call f vs) :=
 L2.walk_of (n := 63) (k := k) (x := p) (CX := λ _ => CX0) (sp := λ w => spS (K w.params)) hn (by decide) hdf hr hY F (λ _ _ a ns hl hO hS => ⟨a, ns, rfl, hl, SqS.of hO hS, λ _ => rfl⟩) λ _ _ _ _ _ z => z
end L2
end
section
namespace L2
open PySem
section
variable {G : Gs} {F : Nat -> List DV -> Option Ou} {fu : Nat} {δ : List Sv}
theorem q0X {d : DV} {c : Cl} {k : DV -> Cl -> Option Re} : Re.thn (some (.ok d c)) k = k d c := rfl
theorem q3x {l : List (DV × Cl)} {k : List (DV × Cl) -> Option Re} : Rs.thn (some (.ok l)) k = k l := rfl
theorem q5D {ds : List DV} {c : Cl} {k : List DV -> Cl -> Option Re} : Ri.thn (some (.ok ds c)) k = k ds c := rfl
theorem q9d {d : DV} {c : Cl} {k : DV -> Cl -> Option Out} : Re.thnS δ (some (.ok d c)) k = k d c := rfl
theorem z5m {m : MS} {r : List MS} {δ' : List Sv} (h : evS G F fu m δ = some (.nx δ')) : evSs G F fu (m :: r) δ = evSs G F fu r δ' := by
 rw [show evSs G F fu (m :: r) δ = (match evS G F fu m δ with | some (.nx δ') => evSs G F fu r δ' | o => o) from rfl, h]
theorem z5N {m : MS} {r : List MS} {d : DV} {fr : Bool} (h : evS G F fu m δ = some (.rt d fr)) : evSs G F fu (m :: r) δ = some (.rt d fr) := by
 rw [show evSs G F fu (m :: r) δ = (match evS G F fu m δ with | some (.nx δ') => evSs G F fu r δ' | o => o) from rfl, h]
theorem q0P {T : List FD} {k f : Nat} {ds : List DV} {fd : FD} (h : T[f]? = some fd) (hl : ds.length = fd.np) : run G T fu (k + 1) f ds = Ou.of (evSs G (run G T fu k) fu fd.body (q0q fd.n ds)) := by
 show (match T[f]? with | none => none | some fd => if ds.length = fd.np then Ou.of (evSs G (run G T fu k) fu fd.body (q0q fd.n ds)) else none) = _
 rw [h]
 exact if_pos hl
end
end L2
namespace L2
open PySem
theorem q2B {I : List Sv -> Prop} {tg : Tg} {body : List Sv -> Option Out} : ∀ {ds : List DV} {δ : List Sv}, (∀ d ∈ ds, ∀ δ, I δ -> ∃ δ1 δ2, tg.bind d δ = some δ1 /\ body δ1 = some (.nx δ2) /\ I δ2) -> I δ -> ∃ δ', q1R tg body ds δ = some (.nx δ') /\ I δ'
 | [], δ, _, i => ⟨δ, rfl, i⟩
 | d :: r, δ, h, i => by
  obtain ⟨δ1, δ2, e1, e2, i2⟩ := h d (List.mem_cons_self ..) δ i
  obtain ⟨δ', e3, i3⟩ := q2B (ds := r) (λ d hd => h d (List.mem_cons_of_mem _ hd)) i2
  refine ⟨δ', ?_, i3⟩
  show (match tg.bind d δ with | none => none | some δ1 => (match body δ1 with | some (.nx δ2) => q1R tg body r δ2 | o => o)) = _
  rw [e1]
  show (match body δ1 with | some (.nx δ2) => q1R tg body r δ2 | o => o) = _
  rw [e2]
  exact e3
theorem q3H {g : DV -> Option Rc} {f : DV -> DV} : ∀ {ds : List DV}, (∀ d ∈ ds, g d = some (.item (f d))) -> q0E g ds = some (ds.map f)
 | [], _ => rfl
 | d :: r, h => by
  have h0 := h d (List.mem_cons_self ..)
  have ih := q3H (ds := r) (λ d hd => h d (List.mem_cons_of_mem _ hd))
  unfold q0E
  rw [h0]
  show (match q0E g r with | none => none | some xs => some (f d :: xs)) = _
  rw [ih]
  rfl
theorem z1Y {lo : Int} {n : Nat} {d : DV} (h : d ∈ upTo lo n) : ∃ j : Nat, j < n /\ d = .int (lo + j) := by
 unfold upTo at h
 rw [List.mem_map] at h
 obtain ⟨j, hj, rfl⟩ := h
 exact ⟨j, List.mem_range.mp hj, rfl⟩
end L2
namespace L2
open PySem
section
variable {G : Gs} {F : Nat -> List DV -> Option Ou} {fu : Nat} {δ δ' : List Sv} {m : MS} {r a b body : List MS} {o : Option Out} {c it : ME} {d : DV} {fr : Bool} {tg : Tg} {ds : List DV} {cl : Cl}
theorem q1B (h : evSs G F fu r δ = some (.rt d fr)) : Ou.of (evSs G F fu r δ) = some (.v d fr) := by rw [h]; rfl
theorem z7R (h : evSs G F fu r δ = some (.nx δ')) : Ou.of (evSs G F fu r δ) = some (.v .non false) := by rw [h]; rfl
theorem q0n (h : evS G F fu m δ = some (.nx δ')) (h2 : evSs G F fu r δ' = o) : evSs G F fu (m :: r) δ = o := (z5m h).trans h2
theorem q1b (h : evS G F fu m δ = some (.rt d fr)) : evSs G F fu (m :: r) δ = some (.rt d fr) := z5N h
theorem z1q {bb : Bool} (hc : tstD (evE G F c δ) = some (.ok bb)) : evS G F fu (.iff c a b) δ = if bb then evSs G F fu a δ else evSs G F fu b δ := by
 show Rt.thnS δ (tstD (evE G F c δ)) (λ k => if k then evSs G F fu a δ else evSs G F fu b δ) = _
 rw [hc]; rfl
theorem q2v (hc : tstD (evE G F c δ) = some (.ok true)) (h : evSs G F fu a δ = some (.nx δ')) (h2 : evSs G F fu r δ' = o) : evSs G F fu (.iff c a b :: r) δ = o := q0n ((z1q hc).trans h) h2
theorem z0r (hc : tstD (evE G F c δ) = some (.ok false)) (h : evSs G F fu b δ = some (.nx δ')) (h2 : evSs G F fu r δ' = o) : evSs G F fu (.iff c a b :: r) δ = o := q0n ((z1q hc).trans h) h2
theorem q4U (hc : tstD (evE G F c δ) = some (.ok true)) (h : evSs G F fu a δ = some (.rt d fr)) : evSs G F fu (.iff c a b :: r) δ = some (.rt d fr) := q1b ((z1q hc).trans h)
theorem q0D (hc : tstD (evE G F c δ) = some (.ok false)) (h2 : evSs G F fu r δ = o) : evSs G F fu (.iff c a [] :: r) δ = o := z0r hc rfl h2
theorem q4k (hw : q0L (evE G F it δ) = some (.ok ds cl)) (hc : cl = .strong \/ cl = .fresh) (h : q1R tg (λ δ' => evSs G F fu body δ') ds δ = some (.nx δ')) (h2 : evSs G F fu r δ' = o) : evSs G F fu (.fo tg it body :: r) δ = o := by
 refine q0n ?_ h2
 show Ri.thnS δ (q0L (evE G F it δ)) (λ ds c => if c = .strong \/ c = .fresh then q1R tg (λ δ' => evSs G F fu body δ') ds δ else none) = _
 rw [hw]
 show (if cl = .strong \/ cl = .fresh then q1R tg (λ δ' => evSs G F fu body δ') ds δ else none) = _
 rw [if_pos hc]
 exact h
theorem q0j {i : Nat} {e : ME} (h : evE G F e δ = some (.ok d cl)) (hs : stro d cl = true) : evS G F fu (.set i false e) δ = some (.nx (δ.set i (.val d))) := by
 show Re.thnS δ (evE G F e δ) (λ d c => if false then q4E i δ d c else (if stro d c then some (.nx (δ.set i (.val d))) else none)) = _
 rw [h]
 show (if stro d cl then some (Out.nx (δ.set i (.val d))) else none) = _
 rw [if_pos hs]
theorem q4Z {i : Nat} {e : ME} (h : evE G F e δ = some (.ok d .fresh)) : evS G F fu (.set i true e) δ = some (.nx (δ.set i (.own d))) := by
 show Re.thnS δ (evE G F e δ) (λ d c => if true then q4E i δ d c else (if stro d c then some (.nx (δ.set i (.val d))) else none)) = _
 rw [h]
 rfl
theorem q1d {e : ME} (h : evE G F e δ = some (.ok d cl)) (hc : cl ≠ .ft := by first | decide | (intro z; cases z)) : evS G F fu (.ret e) δ = some (.rt d (frD d cl)) := by
 show Re.thnS δ (evE G F e δ) (λ d c => some (retD d c)) = _
 rw [h]
 show some (retD d cl) = _
 cases cl <;> first | rfl | exact absurd rfl hc
theorem z5E {e : ME} (h : evE G F e δ = some (.ok d cl)) : evS G F fu (.exp e) δ = some (.nx δ) := by
 show Re.thnS δ (evE G F e δ) (λ _ _ => some (.nx δ)) = _
 rw [h]; rfl
theorem q0h {f : Nat} {es : List ME} {l : List (DV × Cl)} (ha : evEs G F es δ = some (.ok l)) (hs : (l.all λ p => p.2 == .strong || p.2 == .fresh) = true) (h : F f (l.map (·.1)) = some (.v d fr)) : evE G F (.call f es) δ = some (.ok d (if fr then .fresh else .strong)) := by
 show Rs.thn (evEs G F es δ) (λ l => q3v F f l) = _
 rw [ha]
 show q3v F f l = _
 unfold q3v
 rw [h, hs]
 rfl
theorem z1c {f : Nat} {es : List ME} {l : List (DV × Cl)} (ha : evEs G F es δ = some (.ok l)) (hs : (l.all λ p => p.2 == .strong || p.2 == .fresh) = false) (h : F f (l.map (·.1)) = some (.v d fr)) : evE G F (.call f es) δ = some (.ok d .weak) := by
 show Rs.thn (evEs G F es δ) (λ l => q3v F f l) = _
 rw [ha]
 show q3v F f l = _
 unfold q3v
 rw [h, hs]
 rfl
theorem q0f {e : ME} {x : Bool} (h : evE G F e δ = some (.ok (.bl x) cl)) : tstD (evE G F e δ) = some (.ok x) := by rw [h]; rfl
theorem q3L {e : ME} {x : Bool} (h : evE G F e δ = some (.ok (.bl x) cl)) : evE G F (.not e) δ = some (.ok (.bl (!x)) .strong) := by
 show Re.thn (evE G F e δ) (λ x _ => (q2z x).map λ k => .ok (.bl (!k)) .strong) = _
 rw [h]; rfl
end
end L2
namespace L2
open PySem
section
variable {G : Gs} {F : Nat -> List DV -> Option Ou} {fu : Nat} {δ δ' : List Sv} {a b : ME} {x y : DV} {cx cy : Cl}
theorem q4o {op : Operator} {r : Option Re} (ha : evE G F a δ = some (.ok x cx)) (hb : evE G F b δ = some (.ok y cy)) (h : binD op x y cx cy = r) : evE G F (.bin op a b) δ = r := by
 show Re.thn (evE G F a δ) (λ x cx => Re.thn (evE G F b δ) λ y cy => binD op x y cx cy) = _
 rw [ha, q0X, hb, q0X, h]
theorem q1Q {op : CmpOp} {t : Bool} (ha : evE G F a δ = some (.ok x cx)) (hb : evE G F b δ = some (.ok y cy)) (h : cmpD op x y = some t) : evE G F (.cmp op a b) δ = some (.ok (.bl t) .strong) := by
 show Re.thn (evE G F a δ) (λ x _ => Re.thn (evE G F b δ) λ y _ => (cmpD op x y).map λ k => .ok (.bl k) .strong) = _
 rw [ha, q0X, hb, q0X, h]; rfl
theorem q1f {d : DV} (ha : evE G F a δ = some (.ok x cx)) (hb : evE G F b δ = some (.ok y cy)) (h : ixD x y = some d) : evE G F (.ix a b) δ = some (.ok d cx.item) := by
 show Re.thn (evE G F a δ) (λ x cx => Re.thn (evE G F b δ) λ y _ => (ixD x y).map λ d => .ok d cx.item) = _
 rw [ha, q0X, hb, q0X, h]; rfl
theorem q7g {o : Option Re} (ha : evE G F a δ = some (.ok (.bl false) cx)) (hb : evE G F b δ = o) : evE G F (.or [a, b]) δ = o := by
 show Re.thn (evE G F a δ) (λ x c => orD x c (evE G F b δ)) = _
 rw [ha]; exact hb
theorem z3J (ha : evE G F a δ = some (.ok (.bl true) cx)) : evE G F (.or [a, b]) δ = some (.ok (.bl true) cx) := by
 show Re.thn (evE G F a δ) (λ x c => orD x c (evE G F b δ)) = _
 rw [ha]; rfl
theorem q0g : evEs G F [] δ = some (.ok []) := rfl
theorem q0b {es : List ME} {l : List (DV × Cl)} (ha : evE G F a δ = some (.ok x cx)) (h : evEs G F es δ = some (.ok l)) : evEs G F (a :: es) δ = some (.ok ((x, cx) :: l)) := by
 unfold evEs
 rw [ha, h]
end
end L2
namespace L2
open PySem
section
variable {G : Gs} {F : Nat -> List DV -> Option Ou} {fu : Nat} {δ δ' : List Sv} {a b c e : ME} {x y d : DV} {cx cy cl : Cl} {i : Nat} {ds : List DV}
theorem z2B {t : Bool} (h : tstD (evE G F c δ) = some (.ok t)) : evE G F (.ite c a b) δ = if t then evE G F a δ else evE G F b δ := by
 show Rt.thn (tstD (evE G F c δ)) (λ k => if k then evE G F a δ else evE G F b δ) = _
 rw [h]; rfl
theorem z2E (h0 : δ[i]? = some (.own (.lst ds))) (h : evE G F e δ = some (.ok d cl)) (hs : stro d cl = true) (hl : ds.length < mostLen) : evS G F fu (.app i e) δ = some (.nx (δ.set i (.own (.lst (ds ++ [d]))))) := by
 unfold evS
 rw [h0]
 show Re.thnS δ (evE G F e δ) (λ d c => if stro d c /\ ds.length < mostLen then some (.nx (δ.set i (.own (.lst (ds ++ [d]))))) else none) = _
 rw [h]
 exact if_pos ⟨hs, hl⟩
theorem z3n {k : ME} {n : Int} {j : Nat} (h0 : δ[i]? = some (.own (.lst ds))) (h : evE G F e δ = some (.ok d cl)) (hk : evE G F k δ = some (.ok (.int n) cx)) (hs : stro d cl = true) (hj : q2a ds.length n = some j) : evS G F fu (.seti i k e) δ = some (.nx (δ.set i (.own (.lst (ds.set j d))))) := by
 unfold evS
 rw [h0]
 show Re.thnS δ (evE G F e δ) (λ d c => Re.thnS δ (evE G F k δ) λ k _ => (match k with | .int k => (match q2a ds.length k with | some j => if stro d c then some (.nx (δ.set i (.own (.lst (ds.set j d))))) else none | none => none) | _ => none)) = _
 rw [h, q9d, hk, q9d]
 show (match q2a ds.length n with | some j => if stro d cl then some (Out.nx (δ.set i (.own (.lst (ds.set j d))))) else none | none => none) = _
 rw [hj]
 exact if_pos hs
end
end L2
namespace L2
open PySem
section
variable {G : Gs} {F : Nat -> List DV -> Option Ou} {fu : Nat} {δ δ' : List Sv} {a b c e : ME} {x y d : DV} {cx cy cl : Cl} {i : Nat} {ds : List DV}
theorem q1M {I : Nat -> List Sv -> Prop} {body : List Sv -> Option Out} : ∀ (n : Nat) (lo : Int) {δ : List Sv}, (∀ j < n, ∀ δ, I j δ -> ∃ δ2, body (δ.set i (.val (.int (lo + j)))) = some (.nx δ2) /\ I (j + 1) δ2) -> I 0 δ -> ∃ δ', q1R (.one i) body (upTo lo n) δ = some (.nx δ') /\ I n δ'
 | 0, _, δ, _, i0 => ⟨δ, rfl, i0⟩
 | n + 1, lo, δ, h, i0 => by
  have e : upTo lo (n + 1) = .int lo :: upTo (lo + 1) n := by
   unfold upTo
   rw [List.range_succ_eq_map, List.map_cons, List.map_map]
   congr 1
   ·congr 1; omega
   ·apply List.map_congr_left
    intro a _
    show DV.int _ = DV.int _
    congr 1
    push_cast
    omega
  obtain ⟨δ2, h0, i1⟩ := h 0 (by omega) δ i0
  rw [show lo + ((0 : Nat) : Int) = lo by omega] at h0
  obtain ⟨δ', h1, i2⟩ := q1M (I := λ j => I (j + 1)) n (lo + 1) (δ := δ2) (λ j hj δ q => by
   obtain ⟨δ3, q1, q2⟩ := h (j + 1) (by omega) δ q
   refine ⟨δ3, ?_, q2⟩
   rw [show lo + 1 + ((j : Nat) : Int) = lo + ((j + 1 : Nat) : Int) by push_cast; omega]
   exact q1) i1
  refine ⟨δ', ?_, i2⟩
  rw [e]
  show (match body (δ.set i (.val (.int lo))) with | some (.nx δ2) => q1R (.one i) body (upTo (lo + 1) n) δ2 | o => o) = _
  rw [h0]
  exact h1
theorem z3Y {elt it : ME} {tg : Tg} {fr : List (Option Nat)} {f : DV -> DV} (hw : q0L (evE G F it δ) = some (.ok ds cl)) (hc : cl ≠ .weak) (hl : ds.length <= mostLen)
  (h : ∀ d ∈ ds, ∃ δ', tg.bind d (q0s fr δ) = some δ' /\ evE G F elt δ' = some (.ok (f d) .strong)) : evE G F (.comp elt tg it fr) δ = some (.ok (.lst (ds.map f)) .fresh) := by
 show Ri.thn (q0L (evE G F it δ)) (λ ds c => if c = .weak \/ mostLen < ds.length then (if c = .weak /\ ds.length <= mostLen then q2t (q0E (λ d => (tg.bind d (q0s fr [])).bind λ δ' => Rc.of (evE G F elt δ')) ds) else none) else q1x (q0E (λ d => (tg.bind d (q0s fr δ)).bind λ δ' => Rc.of (evE G F elt δ')) ds)) = _
 rw [hw, q5D, if_neg (by rintro (z | z); exact hc z; omega), q3H (f := f) (λ d hd => ?_)]
 ·rfl
 ·obtain ⟨δ', e1, e2⟩ := h d hd
  rw [e1, Option.bind_some, e2]
  rfl
theorem z6E {l : List Int} {j : Nat} (h : j < l.length) : ixD (.lst (l.map DV.int)) (.int j) = some (.int l[j]) := by
 have hh : (j : Int) < ((l.map DV.int).length : Int) := by rw [List.length_map]; exact_mod_cast h
 simp only [ixD, atD, q2a, if_pos (Int.natCast_nonneg j), if_pos hh, Option.bind_some, Int.toNat_natCast, List.getElem?_map, List.getElem?_eq_getElem h, Option.map_some]
theorem z2m {l : List Int} {i : Int} (h0 : 0 <= i) (h : i < l.length) : ∃ v, ixD (.lst (l.map DV.int)) (.int i) = some (.int v) := by
 obtain ⟨j, rfl⟩ := Int.eq_ofNat_of_zero_le h0
 exact ⟨_, z6E (by omega)⟩
end
end L2
namespace L2
open PySem
section
variable {G : Gs} {F : Nat -> List DV -> Option Ou} {fu : Nat} {δ δ' : List Sv} {r body : List MS} {it : ME} {cl : Cl} {ds : List DV} {tg : Tg} {o : Option Out}
end
end L2
namespace L2
open PySem
section
variable {G : Gs} {F : Nat -> List DV -> Option Ou} {fu : Nat} {δ δ' : List Sv} {a b : ME} {i j : Int} {cx cy : Cl}
theorem q0e : evE G F (.int i) δ = some (.ok (.int i) .strong) := rfl
theorem q0a {n : Nat} {d : DV} (h : δ[n]? = some (.val d)) : evE G F (.var n) δ = some (.ok d .strong) := by unfold evE; rw [h]
theorem q3J {n : Nat} {d : DV} (h : δ[n]? = some (.own d)) : evE G F (.var n) δ = some (.ok d .top) := by unfold evE; rw [h]
theorem q4G (ha : evE G F a δ = some (.ok (.int i) cx)) (hb : evE G F b δ = some (.ok (.int j) cy)) : evE G F (.bin .Add a b) δ = some (.ok (.int (i + j)) .strong) := q4o ha hb rfl
theorem z3z (ha : evE G F a δ = some (.ok (.int i) cx)) (hb : evE G F b δ = some (.ok (.int j) cy)) : evE G F (.bin .Sub a b) δ = some (.ok (.int (i - j)) .strong) := q4o ha hb rfl
theorem q8r (ha : evE G F a δ = some (.ok (.int i) cx)) (hb : evE G F b δ = some (.ok (.int j) cy)) (h : q4y i j = true) : evE G F (.bin .Mult a b) δ = some (.ok (.int (i * j)) .strong) := q4o ha hb (if_pos h)
theorem q1i (ha : evE G F a δ = some (.ok (.int i) cx)) (hb : evE G F b δ = some (.ok (.int j) cy)) (h : 0 < j) : evE G F (.bin .Mod a b) δ = some (.ok (.int (i % j)) .strong) := q4o ha hb (if_pos h)
theorem z0a (ha : evE G F a δ = some (.ok (.int i) cx)) (hb : evE G F b δ = some (.ok (.int j) cy)) (h : 0 < j /\ j < 1073741824) : evE G F (.bin .FloorDiv a b) δ = some (.ok (.int (i / j)) .strong) := q4o ha hb (if_pos h)
theorem b_eq (ha : evE G F a δ = some (.ok (.int i) cx)) (hb : evE G F b δ = some (.ok (.int j) cy)) : evE G F (.cmp .Eq a b) δ = some (.ok (.bl (i == j)) .strong) := q1Q ha hb rfl
theorem b_lt (ha : evE G F a δ = some (.ok (.int i) cx)) (hb : evE G F b δ = some (.ok (.int j) cy)) : evE G F (.cmp .Lt a b) δ = some (.ok (.bl (decide (i < j))) .strong) := q1Q ha hb rfl
end
end L2
namespace L2
open PySem
section
variable {G : Gs} {F : Nat -> List DV -> Option Ou} {fu : Nat} {δ δ' : List Sv} {es : List ME} {l : List (DV × Cl)}
theorem z2j (h : evEs G F es δ = some (.ok l)) (hl : l.length <= mostLen) (hs : stros l = true) : evE G F (.tup es) δ = some (.ok (.tup (l.map (·.1))) .strong) := by
 show Rs.thn (evEs G F es δ) (λ l => if l.length <= mostLen then some (.ok (.tup (l.map (·.1))) (if stros l then .strong else .weak)) else none) = _
 rw [h, q3x, if_pos hl, hs]
 rfl
end
end L2
namespace L2
open PySem
end L2
namespace L2
open PySem
end L2
end
section
namespace k34
open PySem L2
noncomputable def q3c : FD := { n := 1, np := 1, dfl := [], body := [.ret (.bi .tuple [.comp (.bi .tuple [.comp (.ix (.var 0) (.var 1)) (.one 0) (.var 1) [none, some 0]]) (.one 0) (.rng [.bi .len [.ix (.var 0) (.int 0)]]) [none, some 0]])] }
noncomputable def q2F : FD := { n := 3, np := 3, dfl := [], body := [.ret (.bi .tuple [.comp (.bi .tuple [.comp (.ix (.ix (.var 1) (.var 2)) (.var 0)) (.one 0) (.var 1) [none, some 2, some 0]]) (.one 0) (.var 1) [none, some 2, some 0]])] }
noncomputable def q2q : FD := { n := 1, np := 1, dfl := [], body := [.ret (.comp (.idx (.var 1) (.var 0)) (.one 0) (.var 0) [none, some 0])] }
noncomputable def q1r : FD := { n := 1, np := 1, dfl := [], body := [.ret (.call 2 [.call 0 [.var 0]])] }
noncomputable def q2Z : FD := { n := 1, np := 1, dfl := [], body := [.ret (.call 1 [.var 0, .bi .sset [.call 2 [.var 0]], .bi .sset [.call 3 [.var 0]]])] }
noncomputable def q2H : FD := { n := 2, np := 1, dfl := [], body := [.set 1 false (.call 4 [.var 0]), .ret (.and [.cmp .LtE (.bi .len [.var 1]) (.glb "SMALL_LINES"), .cmp .LtE (.bi .len [.ix (.var 1) (.int 0)]) (.glb "SMALL_LINES")])] }
noncomputable def q1A : FD := { n := 1, np := 1, dfl := [], body := [.iff (.not (.call 5 [.var 0])) [.rse "TooGreat" (.str "the table has more than five kinds of rows or of columns")] []] }
noncomputable def q3u : FD := { n := 5, np := 2, dfl := [], body := [.exp (.call 6 [.var 0]), .set 2 false (.bi .sset [.call 3 [.var 0]]), .set 3 true (.lst []), .fo (.one 4) (.bi .sset [.call 2 [.var 0]]) [.ext 3 (.compi (.tup [.var 1, .var 0]) (.one 0) (.var 2) (.cmp .Eq (.ix (.ix (.var 2) (.var 1)) (.var 0)) (.var 3)) [none, some 4, some 0, some 1])], .frz 3, .ret (.call 8 [.var 0, .var 3])] }
noncomputable def q1c : FD := { n := 6, np := 2, dfl := [], body := [.iff (.cmp .Eq (.var 1) (.lst [])) [.ret (.lst [])] [], .set 2 false (.ix (.var 1) (.int 0)), .set 3 false (.slf (.var 1) (.int 1)), .set 4 true (.bin .Add (.lst [.var 2]) (.call 8 [.var 0, .compi (.var 0) (.one 0) (.var 3) (.call 9 [.var 1, .var 2, .var 0]) [none, some 0, some 2]])), .set 5 true (.call 8 [.var 0, .var 3]), .ret (.ite (.cmp .GtE (.bi .len [.var 4]) (.bi .len [.var 5])) (.var 4) (.var 5))] }
noncomputable def q1P : FD := { n := 4, np := 3, dfl := [], body := [.set 3 false (.ix (.ix (.var 0) (.ix (.var 1) (.int 0))) (.ix (.var 1) (.int 1))), .iff (.cmp .NotEq (.ix (.ix (.var 0) (.ix (.var 2) (.int 0))) (.ix (.var 2) (.int 1))) (.var 3)) [.ret (.bl false)] [], .ret (.or [.cmp .NotEq (.ix (.ix (.var 0) (.ix (.var 1) (.int 0))) (.ix (.var 2) (.int 1))) (.var 3), .cmp .NotEq (.ix (.ix (.var 0) (.ix (.var 2) (.int 0))) (.ix (.var 1) (.int 1))) (.var 3)])] }
noncomputable def q3p : FD := { n := 1, np := 1, dfl := [], body := [.ret (.and [.isi (.var 0) ["int"], .not (.isi (.var 0) ["bool"])])] }
noncomputable def q1s : FD := { n := 2, np := 2, dfl := [], body := [.iff (.cmp .Lt (.var 1) (.bi .len [.var 0])) [.ret (.ix (.var 0) (.var 1))] [], .ret (.int 0)] }
noncomputable def q1C : FD := { n := 5, np := 2, dfl := [], body := [.set 2 true (.lst []), .set 3 false (.bin .Add (.bin .Mod (.var 0) (.int 2147483647)) (.int 48271)), .fo (.one 4) (.rng [.var 1]) [.set 3 false (.bin .Mod (.bin .Add (.bin .Add (.bin .Mult (.var 3) (.int 48271)) (.bin .Mult (.var 4) (.var 4))) (.int 11)) (.int 2147483647)), .app 2 (.bin .FloorDiv (.var 3) (.int 7))], .ret (.var 2)] }
noncomputable def q1l : FD := { n := 10, np := 3, dfl := [], body := [.set 3 false (.ix (.lst [.int 4, .int 4, .int 4, .int 4, .int 4, .int 4, .int 4, .int 5]) (.bin .Mod (.ix (.var 2) (.int 0)) (.int 8))), .set 4 false (.bin .Add (.int 1) (.bin .Mod (.ix (.var 2) (.int 1)) (.var 3))), .set 5 false (.bin .Add (.int 1) (.bin .Mod (.ix (.var 2) (.int 2)) (.var 3))), .set 6 false (.ix (.lst [.int 2, .int 3, .int 10, .int 2]) (.bin .Mod (.ix (.var 2) (.int 3)) (.int 4))), .set 7 true (.comp (.bin .Mod (.var 0) (.var 1)) (.one 0) (.call 12 [.call 11 [.var 0, .int 1], .bin .Mult (.var 4) (.var 5)]) [none, some 6]), .fo (.one 8) (.rng [.bi .min [.bin .Mult (.var 4) (.var 5), .bin .Sub (.bi .len [.var 0]) (.var 1)]]) [.seti 7 (.var 8) (.bin .Mod (.ix (.var 0) (.bin .Add (.var 1) (.var 8))) (.var 6))], .set 9 false (.comp (.sl (.var 1) (.bin .Mult (.var 0) (.var 2)) (.bin .Add (.bin .Mult (.var 0) (.var 2)) (.var 2))) (.one 0) (.rng [.var 4]) [none, some 7, some 5]), .iff (.cmp .Eq (.bin .Mod (.ix (.var 2) (.int 4)) (.int 8)) (.int 1)) [.set 9 false (.comp (.comp (.bi .int [.cmp .Eq (.var 1) (.var 0)]) (.one 0) (.rng [.var 1]) [none, some 0]) (.one 0) (.rng [.var 4]) [none, some 5])] [], .iff (.cmp .Eq (.bin .Mod (.ix (.var 2) (.int 4)) (.int 8)) (.int 2)) [.set 9 false (.comp (.comp (.bi .int [.cmp .Lt (.var 1) (.var 0)]) (.one 0) (.rng [.var 1]) [none, some 0]) (.one 0) (.rng [.var 4]) [none, some 5])] [], .iff (.cmp .Eq (.bin .Mod (.ix (.var 2) (.int 4)) (.int 8)) (.int 3)) [.set 9 false (.comp (.comp (.bin .Mod (.ix (.var 1) (.int 5)) (.int 10)) (.one 0) (.rng [.var 1]) [none, some 2]) (.one 0) (.rng [.var 4]) [none, some 5, some 2])] [], .ret (.var 9)] }
noncomputable def q1O : FD := { n := 7, np := 2, dfl := [], body := [.set 2 false (.call 12 [.call 11 [.var 0, .int 0], .int 24]), .set 3 false (.call 13 [.var 0, .var 1, .var 2]), .fo (.one 4) (.rng [.bin .Mod (.ix (.var 2) (.int 6)) (.int 5)]) [.iff (.and [.cmp .Lt (.bi .len [.var 3]) (.int 8), .cmp .Eq (.bin .Mod (.ix (.var 2) (.bin .Add (.int 7) (.var 4))) (.int 2)) (.int 0)]) [.set 5 false (.bin .Mod (.ix (.var 2) (.bin .Add (.int 12) (.var 4))) (.bin .Add (.bi .len [.var 3]) (.int 1))), .set 3 false (.bin .Add (.bin .Add (.slt (.var 3) (.var 5)) (.lst [.ix (.var 3) (.bin .Mod (.ix (.var 2) (.bin .Add (.int 17) (.var 4))) (.bi .len [.var 3]))])) (.slf (.var 3) (.var 5)))] [.iff (.cmp .Lt (.bi .len [.ix (.var 3) (.int 0)]) (.int 8)) [.set 5 false (.bin .Mod (.ix (.var 2) (.bin .Add (.int 12) (.var 4))) (.bin .Add (.bi .len [.ix (.var 3) (.int 0)]) (.int 1))), .set 6 false (.bin .Mod (.ix (.var 2) (.bin .Add (.int 17) (.var 4))) (.bi .len [.ix (.var 3) (.int 0)])), .set 3 false (.comp (.bin .Add (.bin .Add (.slt (.var 0) (.var 1)) (.lst [.ix (.var 0) (.var 2)])) (.slf (.var 0) (.var 1))) (.one 0) (.var 3) [none, some 5, some 6])] []]], .ret (.bi .tuple [.comp (.bi .tuple [.var 0]) (.one 0) (.var 3) [none]])] }
noncomputable def q1u : FD := { n := 4, np := 1, dfl := [], body := [.set 1 false (.compi (.bi .list [.ix (.var 1) (.var 0)]) (.one 0) (.rng [.bi .len [.var 0]]) (.cmp .NotIn (.ix (.var 1) (.var 0)) (.slt (.var 1) (.var 0))) [none, some 0]), .set 2 false (.comp (.comp (.ix (.var 0) (.var 1)) (.one 0) (.var 1) [none, some 0]) (.one 0) (.rng [.bi .len [.ix (.var 1) (.int 0)]]) [none, some 1]), .set 3 false (.compi (.var 0) (.one 0) (.rng [.bi .len [.var 2]]) (.cmp .NotIn (.ix (.var 1) (.var 0)) (.slt (.var 1) (.var 0))) [none, some 2]), .ret (.comp (.comp (.ix (.var 1) (.var 0)) (.one 0) (.var 1) [none, some 0]) (.one 0) (.var 1) [none, some 3])] }
noncomputable def q0H : FD := { n := 3, np := 1, dfl := [], body := [.set 1 false (.bin .Add (.int 6) (.bin .Mod (.var 0) (.int 3))), .set 2 false (.comp (.comp (.bin .Mod (.bin .RShift (.var 1) (.var 0)) (.int 2)) (.one 0) (.rng [.int 3]) [none, some 0]) (.one 0) (.rng [.var 1]) [none]), .iff (.cmp .Eq (.bin .Mod (.bin .FloorDiv (.var 0) (.int 3)) (.int 2)) (.int 0)) [.set 2 false (.comp (.comp (.bi .int [.cmp .Eq (.var 1) (.var 0)]) (.one 0) (.rng [.var 1]) [none, some 0]) (.one 0) (.rng [.var 1]) [none, some 1])] [], .iff (.cmp .Eq (.bin .Mod (.bin .FloorDiv (.var 0) (.int 6)) (.int 2)) (.int 1)) [.set 2 false (.comp (.comp (.ix (.var 0) (.var 1)) (.one 0) (.var 1) [none, some 0]) (.one 0) (.rng [.bi .len [.ix (.var 2) (.int 0)]]) [none, some 2])] [], .ret (.bi .tuple [.comp (.bi .tuple [.var 0]) (.one 0) (.var 2) [none]])] }
noncomputable def q1q : FD := { n := 4, np := 2, dfl := [], body := [.set 2 false (.non), .tryc [.exp (.call 7 [.var 0, .var 1])] "TalkError" 3 2, .iff (.or [.cmp .Is (.var 2) (.non), .not (.isx (.var 2) "TooGreat"), .not (.isx (.var 2) "ValueError")]) [.ret (.bl false)] [], .ret (.and [.not (.isx (.var 2) "NoTable"), .not (.isx (.var 2) "NoCard")])] }
noncomputable def q2i : FD := { n := 4, np := 3, dfl := [], body := [.set 3 false (.ix (.ix (.var 0) (.ix (.var 1) (.int 0))) (.ix (.var 1) (.int 1))), .iff (.or [.cmp .Eq (.var 1) (.var 2), .cmp .NotEq (.ix (.ix (.var 0) (.ix (.var 2) (.int 0))) (.ix (.var 2) (.int 1))) (.var 3)]) [.ret (.bl false)] [], .ret (.or [.cmp .NotEq (.ix (.ix (.var 0) (.ix (.var 1) (.int 0))) (.ix (.var 2) (.int 1))) (.var 3), .cmp .NotEq (.ix (.ix (.var 0) (.ix (.var 2) (.int 0))) (.ix (.var 1) (.int 1))) (.var 3)])] }
noncomputable def q1n : FD := { n := 6, np := 4, dfl := [], body := [.iff (.cmp .Eq (.var 3) (.bi .len [.var 0])) [.ret (.bi .len [.var 2])] [], .set 4 false (.call 19 [.var 0, .var 1, .var 2, .bin .Add (.var 3) (.int 1)]), .fo (.one 5) (.rng [.bi .len [.ix (.var 0) (.int 0)]]) [.iff (.cmp .Eq (.ix (.ix (.var 0) (.var 3)) (.var 5)) (.var 1)) [.iff (.cmp .Eq (.bi .len [.compi (.var 0) (.one 0) (.var 2) (.not (.call 18 [.var 1, .var 0, .tup [.var 2, .var 3]])) [none, some 0, some 3, some 5]]) (.int 0)) [.set 4 false (.bi .max [.var 4, .call 19 [.var 0, .var 1, .bin .Add (.var 2) (.lst [.tup [.var 3, .var 5]]), .bin .Add (.var 3) (.int 1)]])] []] []], .ret (.var 4)] }
noncomputable def q2g : FD := { n := 6, np := 3, dfl := [], body := [.iff (.or [.not (.isi (.var 0) ["list"]), .cmp .NotEq (.var 0) (.bi .sorted [.var 0])]) [.ret (.bl false)] [], .fo (.one 3) (.var 0) [.iff (.or [.not (.isi (.var 3) ["tuple"]), .cmp .NotEq (.bi .len [.var 3]) (.int 2), .not (.call 10 [.ix (.var 3) (.int 0)]), .not (.call 10 [.ix (.var 3) (.int 1)])]) [.ret (.bl false)] [], .iff (.or [.cmp .Lt (.bi .min [.var 3]) (.int 0), .cmp .GtE (.ix (.var 3) (.int 0)) (.bi .len [.var 1]), .cmp .GtE (.ix (.var 3) (.int 1)) (.bi .len [.ix (.var 1) (.int 0)]), .cmp .NotEq (.ix (.ix (.var 1) (.ix (.var 3) (.int 0))) (.ix (.var 3) (.int 1))) (.var 2)]) [.ret (.bl false)] []], .fo (.one 4) (.rng [.bi .len [.var 0]]) [.fo (.one 5) (.rng [.var 4]) [.iff (.not (.call 18 [.var 1, .ix (.var 0) (.var 5), .ix (.var 0) (.var 4)])) [.ret (.bl false)] []]], .ret (.cmp .Eq (.bi .len [.var 0]) (.call 19 [.call 15 [.var 1], .var 2, .lst [], .int 0]))] }
noncomputable def z1n : FD := { n := 12, np := 1, dfl := [], body := [.set 1 false (.call 14 [.var 0, .int 2]), .fo (.one 2) (.bin .Add (.lst [.call 11 [.var 0, .int 0]]) (.sl (.var 0) (.int 1) (.int 21))) [.set 3 false (.call 12 [.var 2, .int 5]), .set 4 false (.tup [.bin .Mod (.ix (.var 3) (.int 0)) (.bi .len [.var 1]), .bin .Mod (.ix (.var 3) (.int 1)) (.bi .len [.ix (.var 1) (.int 0)])]), .set 5 false (.tup [.bin .Mod (.ix (.var 3) (.int 2)) (.bi .len [.var 1]), .bin .Mod (.ix (.var 3) (.int 3)) (.bi .len [.ix (.var 1) (.int 0)])]), .iff (.cmp .Eq (.bin .Mod (.ix (.var 3) (.int 4)) (.int 5)) (.int 0)) [.set 5 false (.tup [.ix (.var 4) (.int 0), .bin .Mod (.ix (.var 3) (.int 3)) (.bi .len [.ix (.var 1) (.int 0)])])] [], .iff (.cmp .Eq (.bin .Mod (.ix (.var 3) (.int 4)) (.int 5)) (.int 1)) [.set 5 false (.tup [.bin .Mod (.ix (.var 3) (.int 2)) (.bi .len [.var 1]), .ix (.var 4) (.int 1)])] [], .set 6 false (.call 9 [.var 1, .var 4, .var 5]), .iff (.or [.not (.isi (.var 6) ["bool"]), .cmp .NotEq (.var 6) (.call 18 [.var 1, .var 4, .var 5])]) [.ret (.bl false)] []], .set 7 false (.ix (.var 1) (.bin .Mod (.bin .FloorDiv (.call 11 [.var 0, .int 0]) (.int 7)) (.bi .len [.var 1]))), .set 8 false (.ix (.var 7) (.bin .Mod (.bin .FloorDiv (.call 11 [.var 0, .int 1]) (.int 7)) (.bi .len [.var 7]))), .fo (.one 9) (.lst [.var 8, .bin .Mod (.bin .Add (.var 8) (.int 1)) (.int 10)]) [.set 6 true (.call 7 [.var 1, .var 9]), .iff (.not (.call 20 [.var 6, .var 1, .var 9])) [.ret (.bl false)] [], .set 10 false (.bi .list [.var 6]), .app 6 (.int 0), .iff (.cmp .NotEq (.call 7 [.var 1, .var 9]) (.var 10)) [.ret (.bl false)] []], .set 11 false (.call 16 [.call 11 [.var 0, .int 1]]), .fo (.many [4, 5]) (.lst [.tup [.tup [.int 0, .int 0], .tup [.int 1, .int 1]], .tup [.tup [.int 0, .int 1], .tup [.bin .Sub (.bi .len [.var 11]) (.int 1), .bin .Sub (.bi .len [.ix (.var 11) (.int 0)]) (.int 1)]], .tup [.tup [.int 2, .int 2], .tup [.int 2, .int 2]]]) [.iff (.cmp .NotEq (.call 9 [.var 11, .var 4, .var 5]) (.call 18 [.var 11, .var 4, .var 5])) [.ret (.bl false)] []], .ret (.and [.call 17 [.var 11, .int 1], .call 17 [.var 11, .int 7]])] }
noncomputable def T : List FD := [q3c, q2F, q2q, q1r, q2Z, q2H, q1A, q3u, q1c, q1P, q3p, q1s, q1C, q1l, q1O, q1u, q0H, q1q, q2i, q1n, q2g, z1n]
noncomputable def G : Gs := { con := [("SMALL_LINES", .int 5)], cls := [("TalkError", ["ValueError", "Exception", "BaseException", "object"]), ("NoTable", ["TalkError", "ValueError", "Exception", "BaseException", "object"]), ("NoCard", ["TalkError", "ValueError", "Exception", "BaseException", "object"]), ("TooGreat", ["TalkError", "ValueError", "Exception", "BaseException", "object"])] }
end k34
namespace k34
open PySem L2
variable {fu k : Nat} {F : Nat -> List DV -> Option Ou} {δ : List Sv} {ds : List DV} {cl : Cl}
theorem z8b {x : Int} : run G T fu (k + 1) 10 [.int x] = some (.v (.bl true) false) := by
 rw [q0P (fd := q3p) rfl rfl]
 rfl
theorem q7U (ns : List Int) (j : Nat) : ∃ v : Int, run G T fu (k + 1) 11 [.scr ns, .int j] = some (.v (.int v) false) := by
 rw [q0P (fd := q1s) rfl rfl]
 unfold q1s
 by_cases h : j < ns.length
 ·refine ⟨ns[j], q1B (q4U (q0f (cl := .strong) ?_) (q1b ?_))⟩
  ·simp [evE, evEs, q0X, q3x, q0q, biOk, biD, lenD, cmpD, h]
  ·simp [evS, evE, q0X, q0q, ixD, q2a, h, Re.thnS, frD, retD, Cl.item]
 ·refine ⟨0, q1B (q0D (q0f (cl := .strong) ?_) (q1b rfl))⟩
  simp [evE, evEs, q0X, q3x, q0q, biOk, biD, lenD, cmpD]
  omega
theorem z0W (xs : List Int) (v : Int) : xs.map DV.int ++ [.int v] = (xs ++ [v]).map DV.int := by rw [List.map_append]; rfl
theorem q5N {F : Nat -> List DV -> Option Ou} {δ : List Sv} {e : ME} {n : Nat} {cl : Cl} (h : evE G F e δ = some (.ok (.int n) cl)) (hn : n <= 1000) : q0L (evE G F (.rng [e]) δ) = some (.ok (upTo 0 n) .fresh) := by
 show q0L (Rs.thn (evEs G F [e] δ) (λ l => (rngD l).map λ ds => .ok (.lst ds) .fresh)) = _
 rw [q0b h q0g, q3x]
 have hs : (q1k (n : Int) && decide ((n : Int) <= (mostLen : Int))) = true := by
  rw [Bool.and_eq_true, decide_eq_true_iff]
  refine ⟨?_, Int.le_trans (show (n : Int) <= 1000 by omega) (by decide)⟩
  unfold q1k
  rw [Bool.and_eq_true, decide_eq_true_iff, decide_eq_true_iff]
  exact ⟨Int.le_trans (by decide) (Int.natCast_nonneg n), Int.lt_of_le_of_lt (show (n : Int) <= 1000 by omega) (by decide)⟩
 show q0L ((if q1k (n : Int) && decide ((n : Int) <= (mostLen : Int)) then some (upTo 0 (n : Int).toNat) else none).map λ ds => .ok (.lst ds) .fresh) = _
 rw [if_pos hs, Int.toNat_natCast]
 rfl
theorem z7W {j : Nat} (hj : j < 1000) : q4y (j : Int) (j : Int) = true := by unfold q4y; simp; omega
theorem m48 (x : Int) : q4y x 48271 = true := by unfold q4y; simp
theorem q5E (c : Int) (n : Nat) (hn : n <= 1000) : ∃ xs : List Int, xs.length = n /\ run G T fu (k + 1) 12 [.int c, .int n] = some (.v (.lst (xs.map DV.int)) true) := by
 rw [q0P (fd := q1C) rfl rfl]
 obtain ⟨δ1, h1, xs, num, z, hl, rfl⟩ := q1M (i := 4) (I := λ j δ => ∃ (xs : List Int) (num : Int) (z : Sv), xs.length = j /\ δ = [.val (.int c), .val (.int n), .own (.lst (xs.map DV.int)), .val (.int num), z])
  (body := λ δ' => evSs G (run G T fu k) fu [.set 3 false (.bin .Mod (.bin .Add (.bin .Add (.bin .Mult (.var 3) (.int 48271)) (.bin .Mult (.var 4) (.var 4))) (.int 11)) (.int 2147483647)), .app 2 (.bin .FloorDiv (.var 3) (.int 7))] δ') n 0 (δ := [.val (.int c), .val (.int n), .own (.lst []), .val (.int (c % 2147483647 + 48271)), .no])
  (λ j hj δ I => by
   obtain ⟨xs, num, z, hl, rfl⟩ := I
   rw [show (0 : Int) + (j : Int) = j by omega]
   obtain ⟨N, hN⟩ : ∃ N : Int, (num * 48271 + (j : Int) * j + 11) % 2147483647 = N := ⟨_, rfl⟩
   obtain ⟨D, hD⟩ : ∃ D : Int, N / 7 = D := ⟨_, rfl⟩
   refine ⟨_, q0n (q0j (d := .int N) (cl := .strong) ?_ rfl) (q0n (z2E (d := .int D) (cl := .strong) rfl ?_ rfl (by rw [List.length_map, hl]; exact Nat.lt_of_lt_of_le (Nat.lt_of_lt_of_le hj hn) (by decide))) rfl), xs ++ [D], N, .val (.int j), by rw [List.length_append, hl]; rfl, ?_⟩
   ·rw [<- hN]; exact q1i (q4G (q4G (q8r (q0a rfl) q0e (m48 _)) (q8r (q0a rfl) (q0a rfl) (z7W (by omega)))) q0e) q0e (by decide)
   ·rw [<- hD]; exact z0a (q0a rfl) q0e (by decide)
   ·rw [<- z0W]; rfl) ⟨[], _, .no, rfl, rfl⟩
 refine ⟨xs, hl, ?_⟩
 unfold q1C
 exact q1B (q0n (q4Z rfl) (q0n (q0j (d := .int (c % 2147483647 + 48271)) (cl := .strong) (q4G (q1i (q0a rfl) q0e (by decide)) q0e) rfl) (q4k (q5N (n := n) (q0a rfl) hn) (.inr rfl) h1 (q1b rfl))))
theorem q3e {e : ME} {ds : List DV} {c : Cl} (h : evE G F e δ = some (.ok (.lst ds) c)) : evE G F (.bi .tuple [e]) δ = some (.ok (.tup ds) c.item) := by
 show Rs.thn (evEs G F [e] δ) (λ l => q4X l) = _
 rw [q0b h q0g]
 rfl
theorem q1m {e : ME} {ds : List DV} {c : Cl} (h : evE G F e δ = some (.ok (.lst ds) c)) : evE G F (.bi .len [e]) δ = some (.ok (.int ds.length) .strong) := by
 show Rs.thn (evEs G F [e] δ) (λ l => lenD l) = _
 rw [q0b h q0g]
 rfl
theorem q2p {e : ME} {ds : List DV} {c : Cl} (h : evE G F e δ = some (.ok (.tup ds) c)) : evE G F (.bi .len [e]) δ = some (.ok (.int ds.length) .strong) := by
 show Rs.thn (evEs G F [e] δ) (λ l => lenD l) = _
 rw [q0b h q0g]
 rfl
noncomputable def iD (r : List Int) : List DV := r.map DV.int
noncomputable def rL (rows : List (List Int)) : DV := .lst (rows.map λ r => .lst (iD r))
noncomputable def tT (rows : List (List Int)) : DV := .tup (rows.map λ r => .tup (iD r))
noncomputable def Rect (n m : Nat) (rows : List (List Int)) : Prop := rows.length = n /\ ∀ r ∈ rows, r.length = m
noncomputable def col (rows : List (List Int)) (j : Nat) : List Int := rows.map λ r => r.getD j 0
noncomputable def flip (m : Nat) (rows : List (List Int)) : List (List Int) := (List.range m).map (col rows)
theorem q5f {r : List Int} {j : Nat} (h : j < r.length) : ixD (.tup (iD r)) (.int j) = some (.int (r.getD j 0)) := by
 have hh : (j : Int) < ((r.map DV.int).length : Int) := by rw [List.length_map]; exact_mod_cast h
 unfold iD
 simp only [ixD, atD, q2a, if_pos (Int.natCast_nonneg j), if_pos hh, Option.bind_some, Int.toNat_natCast, List.getElem?_map, List.getElem?_eq_getElem h, Option.map_some, List.getD_eq_getElem?_getD, Option.getD_some]
theorem q5H {r : List Int} {j : Nat} (h : j < r.length) : ixD (.lst (iD r)) (.int j) = some (.int (r.getD j 0)) := by
 have hh : (j : Int) < ((r.map DV.int).length : Int) := by rw [List.length_map]; exact_mod_cast h
 unfold iD
 simp only [ixD, atD, q2a, if_pos (Int.natCast_nonneg j), if_pos hh, Option.bind_some, Int.toNat_natCast, List.getElem?_map, List.getElem?_eq_getElem h, Option.map_some, List.getD_eq_getElem?_getD, Option.getD_some]
noncomputable def sub (rows : List (List Int)) (I J : List Nat) : List (List Int) := I.map λ i => J.map λ j => (rows.getD i []).getD j 0
theorem q3R {rows : List (List Int)} {i : Nat} (h : i < rows.length) : ixD (tT rows) (.int i) = some (.tup (iD (rows.getD i []))) := by
 have hh : (i : Int) < ((rows.map λ r => DV.tup (iD r)).length : Int) := by rw [List.length_map]; exact_mod_cast h
 simp only [tT, ixD, atD, q2a, if_pos (Int.natCast_nonneg i), if_pos hh, Option.bind_some, Int.toNat_natCast, List.getElem?_map, List.getElem?_eq_getElem h, Option.map_some, List.getD_eq_getElem?_getD, Option.getD_some]
theorem q0U {rows : List (List Int)} {i : Nat} (h : i < rows.length) : rows.getD i [] ∈ rows := by
 rw [List.getD_eq_getElem?_getD, List.getElem?_eq_getElem h]
 exact List.getElem_mem h
theorem q2U (n : Nat) : ∀ r : List Int, DV.plains n (iD r) = true
 | [] => by unfold iD; simp [DV.plains]
 | a :: r => by
  have q := q2U n r
  unfold iD at q ⊢
  rw [List.map_cons]
  unfold DV.plains
  rw [q]
  cases n <;> rfl
theorem z1u {elt it : ME} {tg : Tg} {fr : List (Option Nat)} {f : DV -> DV} (hw : q0L (evE G F it δ) = some (.ok ds cl)) (hc : cl ≠ .weak) (hl : ds.length <= mostLen)
  (h : ∀ d ∈ ds, ∃ δ' c, tg.bind d (q0s fr δ) = some δ' /\ evE G F elt δ' = some (.ok (f d) c) /\ stro (f d) c = true) : evE G F (.comp elt tg it fr) δ = some (.ok (.lst (ds.map f)) .fresh) := by
 show Ri.thn (q0L (evE G F it δ)) (λ ds c => if c = .weak \/ mostLen < ds.length then (if c = .weak /\ ds.length <= mostLen then q2t (q0E (λ d => (tg.bind d (q0s fr [])).bind λ δ' => Rc.of (evE G F elt δ')) ds) else none) else q1x (q0E (λ d => (tg.bind d (q0s fr δ)).bind λ δ' => Rc.of (evE G F elt δ')) ds)) = _
 rw [hw, q5D, if_neg (by rintro (z | z); exact hc z; omega), q3H (f := f) (λ d hd => ?_)]
 ·rfl
 ·obtain ⟨δ', c, e1, e2, e3⟩ := h d hd
  rw [e1, Option.bind_some, e2]
  show (if stro (f d) c then some (Rc.item (f d)) else none) = _
  rw [if_pos e3]
theorem z7l {e : ME} {i : Int} {cl : Cl} (h : evE G F e δ = some (.ok (.int i) cl)) (h1 : i <= 1000) (h2 : -1000 <= i) : q0L (evE G F (.rng [e]) δ) = some (.ok (upTo 0 i.toNat) .fresh) := by
 show q0L (Rs.thn (evEs G F [e] δ) (λ l => (rngD l).map λ ds => .ok (.lst ds) .fresh)) = _
 rw [q0b h q0g, q3x]
 have hs : (q1k i && decide (i <= (mostLen : Int))) = true := by
  rw [Bool.and_eq_true, decide_eq_true_iff]
  refine ⟨?_, Int.le_trans h1 (by decide)⟩
  unfold q1k
  rw [Bool.and_eq_true, decide_eq_true_iff, decide_eq_true_iff]
  exact ⟨Int.le_trans (by decide) h2, Int.lt_of_le_of_lt h1 (by decide)⟩
 show q0L ((if q1k i && decide (i <= (mostLen : Int)) then some (upTo 0 i.toNat) else none).map λ ds => .ok (.lst ds) .fresh) = _
 rw [if_pos hs]
 rfl
noncomputable def q3K (n m : Nat) (ws : List Int) : List (List Int) := (List.range n).map λ j => (ws.drop (j * m)).take m
theorem z0m {n m : Nat} {ws : List Int} (h : ws.length = n * m) : Rect n m (q3K n m ws) := by
 unfold q3K
 refine ⟨by rw [List.length_map, List.length_range], λ r hr => ?_⟩
 obtain ⟨j, hj, rfl⟩ := List.mem_map.mp hr
 have hj' := List.mem_range.mp hj
 rw [List.length_take, List.length_drop, h]
 have : (j + 1) * m <= n * m := Nat.mul_le_mul_right m hj'
 rw [Nat.add_mul, Nat.one_mul] at this
 omega
theorem z7c {a lo hi : ME} {ds : List DV} {c c1 c2 : Cl} {l h : Int} (ha : evE G F a δ = some (.ok (.lst ds) c)) (hl : evE G F lo δ = some (.ok (.int l) c1)) (hh : evE G F hi δ = some (.ok (.int h) c2)) : evE G F (.sl a lo hi) δ = some (.ok (.lst (cutD ds (some l) (some h))) (Cl.anew c c)) := by
 unfold evE
 rw [ha, q0X, hl, q0X]
 show Re.thn (evE G F hi δ) _ = _
 rw [hh]
 rfl
theorem z4B {ws : List Int} {n m j : Nat} (h : ws.length = n * m) (hj : j < n) : cutD (iD ws) (some ((j : Int) * m)) (some ((j : Int) * m + m)) = iD ((ws.drop (j * m)).take m) := by
 have e1 : ((j : Int) * m) = ((j * m : Nat) : Int) := by push_cast; rfl
 have e2 : ((j : Int) * m + m) = ((j * m + m : Nat) : Int) := by push_cast; rfl
 have le : j * m + m <= n * m := by
  have : (j + 1) * m <= n * m := Nat.mul_le_mul_right m hj
  rw [Nat.add_mul, Nat.one_mul] at this
  exact this
 have len : (iD ws).length = n * m := by unfold iD; rw [List.length_map, h]
 unfold cutD slIx
 rw [e2, e1]
 simp only [len]
 rw [if_neg (by omega), if_neg (by omega), Int.toNat_natCast, Int.toNat_natCast, Nat.min_eq_left le, Nat.min_eq_left (show j * m <= n * m by omega), show j * m + m - j * m = m by omega]
 unfold iD
 rw [<- List.map_drop, <- List.map_take]
theorem z3I {n j : Nat} (h : j < n) : q2a n (j : Int) = some j := by
 unfold q2a
 rw [if_pos (Int.natCast_nonneg j), if_pos (by omega), Int.toNat_natCast]
theorem z2t {F : Nat -> List DV -> Option Ou} {δ : List Sv} {es : List ME} {l : List (DV × Cl)} (h : evEs G F es δ = some (.ok l)) : evE G F (.bi .min es) δ = minD l := by
 have e : evE G F (.bi .min es) δ = Rs.thn (evEs G F es δ) (λ l => minD l) := rfl
 rw [e, h]
 rfl
theorem q2A {n m : Nat} {rows : List (List Int)} (R : Rect n m rows) : Rect m n (flip m rows) := by
 unfold flip
 refine ⟨by rw [List.length_map, List.length_range], λ r hr => ?_⟩
 obtain ⟨j, hj, rfl⟩ := List.mem_map.mp hr
 unfold col
 rw [List.length_map, R.1]
theorem q3t {rows : List (List Int)} {i : Nat} (h : i < rows.length) : ixD (rL rows) (.int i) = some (.lst (iD (rows.getD i []))) := by
 have hh : (i : Int) < ((rows.map λ r => DV.lst (iD r)).length : Int) := by rw [List.length_map]; exact_mod_cast h
 simp only [rL, ixD, atD, q2a, if_pos (Int.natCast_nonneg i), if_pos hh, Option.bind_some, Int.toNat_natCast, List.getElem?_map, List.getElem?_eq_getElem h, Option.map_some, List.getD_eq_getElem?_getD, Option.getD_some]
theorem q9S {F : Nat -> List DV -> Option Ou} {δ : List Sv} {es : List ME} {l : List (DV × Cl)} (h : evEs G F es δ = some (.ok l)) (hl : l.length <= mostLen) (hs : stros l = true) : evE G F (.lst es) δ = some (.ok (.lst (l.map (·.1))) .fresh) := by
 have e : evE G F (.lst es) δ = Rs.thn (evEs G F es δ) (λ l => if l.length <= mostLen then some (.ok (.lst (l.map (·.1))) (if stros l then .fresh else .weak)) else none) := rfl
 rw [e, h, q3x, if_pos hl, hs]
 rfl
noncomputable def nD (l : List Nat) : List DV := l.map λ (j : Nat) => DV.int (j : Int)
theorem q8c {α : Type} [BEq α] [LawfulBEq α] {f : α -> DV} (hf : ∀ a b, deq (f a) (f b) = (a == b)) (r : α) : ∀ {l : List α}, r ∈ l -> q3T (f r) (l.map f) = some (l.idxOf r)
 | a :: l, hm => by
  rw [List.map_cons]
  unfold q3T
  rw [hf, List.idxOf_cons]
  cases hb : (a == r) with
  | true => rfl
  | false =>
   have h2 : r ∈ l := by
    rcases List.mem_cons.mp hm with e | e
    ·subst e; simp at hb
    ·exact e
   rw [q8c hf r h2]
   rfl
theorem q7p : ∀ a b : List Int, deqs (iD a) (iD b) = (a == b)
 | [], [] => rfl
 | [], _ :: _ => rfl
 | _ :: _, [] => rfl
 | x :: a, y :: b => by
  have ih := q7p a b
  unfold iD at ih ⊢
  rw [List.map_cons, List.map_cons]
  unfold deqs
  rw [ih]
  unfold deq
  rfl
theorem z7t (a b : List Int) : deq (.lst (iD a)) (.lst (iD b)) = (a == b) := q7p a b
theorem z5T (a b : List Int) : deq (.tup (iD a)) (.tup (iD b)) = (a == b) := q7p a b
theorem q3d {n : Nat} : ∀ {l : List DV}, (∀ d ∈ l, d.plain n = true) -> DV.plains n l = true
 | [], _ => by unfold DV.plains; rfl
 | d :: r, h => by
  unfold DV.plains
  rw [h d (List.mem_cons_self ..), q3d λ x hx => h x (List.mem_cons_of_mem _ hx)]
  rfl
theorem q9v (n : Nat) (a : List Int) : DV.plain (n + 1) (.lst (iD a)) = true := q2U n a
theorem q6U (n : Nat) (a : List Int) : DV.plain (n + 1) (.tup (iD a)) = true := q2U n a
theorem z1T (n : Nat) (rows : List (List Int)) : DV.plains (n + 1) (rows.map λ r => .lst (iD r)) = true := q3d λ d hd => by
 obtain ⟨r, _, rfl⟩ := List.mem_map.mp hd
 exact q9v n r
theorem q7C (n : Nat) (rows : List (List Int)) : DV.plains (n + 1) (rows.map λ r => .tup (iD r)) = true := q3d λ d hd => by
 obtain ⟨r, _, rfl⟩ := List.mem_map.mp hd
 exact q6U n r
theorem z8d {rows : List (List Int)} {r : List Int} (h : r ∈ rows) (hl : rows.length <= 1000) : idxD (.tup (rows.map λ r => .tup (iD r))) (.tup (iD r)) = some (.int (rows.idxOf r : Nat)) := by
 unfold idxD
 dsimp only
 rw [q6U 59, q7C 59, decide_eq_true (by rw [List.length_map]; exact Nat.le_trans hl (by decide)), q8c (f := λ r => .tup (iD r)) z5T r h]
 rfl
theorem z5f {a b : ME} {x y d : DV} {cx cy : Cl} (ha : evE G F a δ = some (.ok x cx)) (hs : seqB x = true) (hb : evE G F b δ = some (.ok y cy)) (h : idxD x y = some d) : evE G F (.idx a b) δ = some (.ok d .strong) := by
 show Re.thn (evE G F a δ) (λ x _ => if seqB x then Re.thn (evE G F b δ) λ y _ => (idxD x y).map λ d => .ok d .strong else none) = _
 rw [ha, q0X, if_pos hs, hb, q0X, h]
 rfl
theorem q4F {α : Type} {g : DV -> Option Rc} {h f : α -> DV} : ∀ {l : List α}, (∀ a ∈ l, g (h a) = some (.item (f a))) -> q0E g (l.map h) = some (l.map f)
 | [], _ => rfl
 | a :: r, q => by
  rw [List.map_cons, List.map_cons]
  unfold q0E
  rw [q a (List.mem_cons_self ..)]
  show (match q0E g (r.map h) with | none => none | some xs => some (f a :: xs)) = _
  rw [q4F λ x hx => q x (List.mem_cons_of_mem _ hx)]
theorem q0Y {α : Type} {l : List α} {h f : α -> DV} {elt it : ME} {tg : Tg} {fr : List (Option Nat)} (hw : q0L (evE G F it δ) = some (.ok (l.map h) cl)) (hc : cl ≠ .weak) (hl : l.length <= mostLen)
  (q : ∀ a ∈ l, ∃ δ' c, tg.bind (h a) (q0s fr δ) = some δ' /\ evE G F elt δ' = some (.ok (f a) c) /\ stro (f a) c = true) : evE G F (.comp elt tg it fr) δ = some (.ok (.lst (l.map f)) .fresh) := by
 show Ri.thn (q0L (evE G F it δ)) (λ ds c => if c = .weak \/ mostLen < ds.length then (if c = .weak /\ ds.length <= mostLen then q2t (q0E (λ d => (tg.bind d (q0s fr [])).bind λ δ' => Rc.of (evE G F elt δ')) ds) else none) else q1x (q0E (λ d => (tg.bind d (q0s fr δ)).bind λ δ' => Rc.of (evE G F elt δ')) ds)) = _
 rw [hw, q5D, if_neg (by rintro (z | z); exact hc z; rw [List.length_map] at z; omega), q4F (f := f) (λ a ha => ?_)]
 ·rfl
 ·obtain ⟨δ', c, e1, e2, e3⟩ := q a ha
  rw [e1, Option.bind_some, e2]
  show (if stro (f a) c then some (Rc.item (f a)) else none) = _
  rw [if_pos e3]
theorem z2d {rows : List (List Int)} {j : Nat} {d : DV} {h : List Int -> DV} (hl : rows.length <= 1000) (w : q0L (evE G F (.var 1) [.val (.int (j : Int)), .val d]) = some (.ok (rows.map h) .strong)) (hh : ∀ r ∈ rows, ixD (h r) (.int j) = some (.int (r.getD j 0))) : evE G F (.comp (.ix (.var 0) (.var 1)) (.one 0) (.var 1) [none, some 0]) [.val (.int j), .val d] = some (.ok (.lst (iD (col rows j))) .fresh) := by
 rw [q0Y (h := h) (f := λ r => .int (r.getD j 0)) w (by decide) (Nat.le_trans hl (by decide)) λ r hr => ⟨[.val (h r), .val (.int j)], .strong, rfl, q1f (cx := .strong) (q0a rfl) (q0a rfl) (hh r hr), rfl⟩]
 unfold iD col
 rw [List.map_map]
 rfl
theorem z7b (rows : List (List Int)) (m j : Nat) (hm : ∀ r ∈ rows, r.length = m) (hj : j < m) (hl : rows.length <= 1000) : evE G F (.comp (.ix (.var 0) (.var 1)) (.one 0) (.var 1) [none, some 0]) [.val (.int j), .val (tT rows)] = some (.ok (.lst (iD (col rows j))) .fresh) := z2d hl rfl λ r hr => q5f (by rw [hm r hr]; exact hj)
theorem z4X (rows : List (List Int)) (m j : Nat) (hm : ∀ r ∈ rows, r.length = m) (hj : j < m) (hl : rows.length <= 1000) : evE G F (.comp (.ix (.var 0) (.var 1)) (.one 0) (.var 1) [none, some 0]) [.val (.int j), .val (rL rows)] = some (.ok (.lst (iD (col rows j))) .fresh) := z2d hl rfl λ r hr => q5H (by rw [hm r hr]; exact hj)
theorem z8a {e : ME} {c : Cl} {n : Nat} (h : evE G F e δ = some (.ok (.int (n : Int)) c)) (hn : n <= 1000) : q0L (evE G F (.rng [e]) δ) = some (.ok ((List.range n).map λ (j : Nat) => DV.int (j : Int)) .fresh) := by
 rw [q5N h hn]
 unfold L2.upTo
 congr 2
 apply List.map_congr_left
 intro j _
 congr 1
 omega
theorem z0t (rows : List (List Int)) (n m : Nat) (R : Rect n m rows) (hn : 0 < n) (hn2 : n <= 1000) (hm2 : m <= 1000) : run G T fu (k + 1) 0 [tT rows] = some (.v (tT (flip m rows)) false) := by
 rw [q0P (fd := q3c) rfl rfl]
 have r0 : 0 < rows.length := by rw [R.1]; exact hn
 have hl := q2p (F := run G T fu k) (δ := q0q 1 [tT rows]) (q1f (a := .var 0) (b := .int 0) (cx := .strong) (q0a rfl) (q0e (i := ((0 : Nat) : Int))) (q3R r0))
 rw [show (iD (rows.getD 0 [])).length = m by unfold iD; rw [List.length_map]; exact R.2 _ (q0U r0)] at hl
 have cm := q0Y (elt := .bi .tuple [.comp (.ix (.var 0) (.var 1)) (.one 0) (.var 1) [none, some 0]]) (tg := .one 0) (fr := [none, some 0]) (f := λ j => .tup (iD (col rows j))) (z8a hl hm2) (by decide) (by rw [List.length_range]; exact Nat.le_trans hm2 (by decide)) λ j hj =>
  ⟨[.val (.int j), .val (tT rows)], .strong, rfl, q3e (z7b rows m j R.2 (List.mem_range.mp hj) (by rw [R.1]; exact hn2)), rfl⟩
 unfold q3c
 refine q1B (q1b (q1d (cl := .strong) ((q3e cm).trans ?_)))
 unfold tT flip
 rw [List.map_map]
 rfl
theorem q8L (rows : List (List Int)) (n m : Nat) (R : Rect n m rows) (I J : List Nat) (hI : ∀ i ∈ I, i < n) (hJ : ∀ j ∈ J, j < m) (lI : I.length <= 1000) (lJ : J.length <= 1000) : run G T fu (k + 1) 1 [tT rows, .lst (nD I), .lst (nD J)] = some (.v (tT (sub rows I J)) false) := by
 rw [q0P (fd := q2F) rfl rfl]
 have cm := q0Y (F := run G T fu k) (δ := q0q 3 [tT rows, .lst (nD I), .lst (nD J)]) (l := I) (h := λ (i : Nat) => .int (i : Int)) (f := λ i => .tup (iD (J.map λ j => (rows.getD i []).getD j 0))) (elt := .bi .tuple [.comp (.ix (.ix (.var 1) (.var 2)) (.var 0)) (.one 0) (.var 1) [none, some 2, some 0]]) (tg := .one 0) (it := .var 1) (fr := [none, some 2, some 0]) (cl := .strong) rfl (by decide) (Nat.le_trans lI (by decide)) λ i hi => by
  refine ⟨[.val (.int (i : Int)), .val (.lst (nD J)), .val (tT rows)], .strong, rfl, q3e (c := .fresh) ?_, rfl⟩
  have hr : i < rows.length := by rw [R.1]; exact hI i hi
  rw [q0Y (h := λ (j : Nat) => .int (j : Int)) (f := λ j => .int ((rows.getD i []).getD j 0)) (cl := .strong) (l := J) rfl (by decide) (Nat.le_trans lJ (by decide)) λ j hj => ⟨[.val (.int (j : Int)), .val (tT rows), .val (.int (i : Int))], .strong, rfl, q1f (cx := .strong) (q1f (cx := .strong) (q0a rfl) (q0a rfl) (q3R hr)) (q0a rfl) (q5f (by rw [R.2 _ (q0U hr)]; exact hJ j hj)), rfl⟩]
  unfold iD
  rw [List.map_map]
  rfl
 unfold q2F
 refine q1B (q1b (q1d (cl := .strong) ((q3e cm).trans ?_)))
 unfold tT sub
 rw [List.map_map]
 rfl
noncomputable def kI (rows : List (List Int)) : List Int := rows.map λ r => ((rows.idxOf r : Nat) : Int)
theorem q2S (rows : List (List Int)) (hl : rows.length <= 1000) : run G T fu (k + 1) 2 [tT rows] = some (.v (.lst (iD (kI rows))) true) := by
 rw [q0P (fd := q2q) rfl rfl]
 unfold q2q
 have e := q0Y (F := run G T fu k) (δ := q0q 1 [tT rows]) (elt := .idx (.var 1) (.var 0)) (tg := .one 0) (it := .var 0) (fr := [none, some 0]) (l := rows) (h := λ r => .tup (iD r)) (f := λ r => .int ((rows.idxOf r : Nat) : Int)) (cl := .strong) rfl (by decide) (Nat.le_trans hl (by decide)) (λ r hr => ⟨[.val (.tup (iD r)), .val (tT rows)], .strong, rfl, z5f (q0a rfl) rfl (q0a rfl) (z8d hr hl), rfl⟩)
 have e2 : (rows.map λ r => DV.int ((rows.idxOf r : Nat) : Int)) = iD (kI rows) := by unfold iD kI; rw [List.map_map]; rfl
 rw [e2] at e
 exact q1B (q1b (q1d e))
theorem z2u (n : Nat) : upTo 0 n = nD (List.range n) := by
 unfold L2.upTo nD
 apply List.map_congr_left
 intro j _
 rw [Int.zero_add]
theorem q7i {x y : Int} : ∀ {l : List Int}, y ∈ insI x l ↔ y = x \/ y ∈ l
 | [] => by simp [insI]
 | z :: l => by
  unfold insI
  split
  ·simp
  ·rw [List.mem_cons, q7i, List.mem_cons]; constructor <;> (rintro (h | h | h) <;> simp [h])
theorem q5M {y : Int} : ∀ {l : List Int}, y ∈ q3B l ↔ y ∈ l
 | [] => Iff.rfl
 | z :: l => by unfold q3B; rw [q7i, q5M, List.mem_cons]
theorem z2i {y : Int} : ∀ {l σ : List Int}, y ∈ l.foldl dk σ ↔ y ∈ σ \/ y ∈ l
 | [], σ => by simp
 | z :: l, σ => by
  rw [List.foldl_cons, z2i, List.mem_cons]
  unfold dk
  split
  ·rename_i h
   constructor
   ·rintro (q | q)
    ·exact .inl q
    ·exact .inr (.inr q)
   ·rintro (q | q | q)
    ·exact .inl q
    ·rw [q]; exact .inl h
    ·exact .inr q
  ·rw [List.mem_append, List.mem_singleton, or_assoc]
theorem q7N : ∀ {l σ : List Int}, (l.foldl dk σ).length <= σ.length + l.length
 | [], σ => by simp
 | z :: l, σ => by
  rw [List.foldl_cons, List.length_cons]
  have := q7N (l := l) (σ := dk σ z)
  have h2 : (dk σ z).length <= σ.length + 1 := by unfold dk; split <;> simp
  omega
theorem q9Y : ∀ r : List Int, ints? (iD r) = some r
 | [] => rfl
 | x :: r => by show (ints? (iD r)).map (x :: ·) = _; rw [q9Y r]; rfl
theorem q5K {e : ME} {r : List Int} {c : Cl} (h : evE G F e δ = some (.ok (.lst (iD r)) c)) (hl : r.length <= 60) : evE G F (.bi .sset [e]) δ = some (.ok (.lst (iD (q3B (r.foldl dk [])))) .fresh) := by
 show Rs.thn (evEs G F [e] δ) (λ l => z1r l) = _
 rw [q0b h q0g]
 show (match ints? (iD r) with
  | some ns => if ns.length < 4000 /\ (ns.foldl dk []).length < 64 then some (Re.ok (.lst ((q3B (ns.foldl dk [])).map DV.int)) .fresh) else none
  | none => none) = _
 rw [q9Y]
 have := q7N (l := r) (σ := [])
 rw [List.length_nil] at this
 exact if_pos ⟨by omega, by omega⟩
section
variable {G : Gs} {a b : ME} {r : List ME} {cx : Cl} {o : Option Re}
theorem z3C (ha : evE G F a δ = some (.ok (.bl true) cx)) (hb : evE G F (.and (b :: r)) δ = o) : evE G F (.and (a :: b :: r)) δ = o := by
 have e : evE G F (.and (a :: b :: r)) δ = Re.thn (evE G F a δ) (λ x c => andD x c (q2K G F (b :: r) δ)) := by
  rw [evE, q2K]; rfl
 have e2 : evE G F (.and (b :: r)) δ = q2K G F (b :: r) δ := by rw [evE]
 rw [e, ha, q0X, <- e2, hb]
 rfl
theorem z6v (ha : evE G F a δ = some (.ok (.bl false) cx)) : evE G F (.and (a :: b :: r)) δ = some (.ok (.bl false) cx) := by
 have e : evE G F (.and (a :: b :: r)) δ = Re.thn (evE G F a δ) (λ x c => andD x c (q2K G F (b :: r) δ)) := by
  rw [evE, q2K]; rfl
 rw [e, ha, q0X]
 rfl
theorem z3y (ha : evE G F a δ = o) : evE G F (.and [a]) δ = o := by
 have e : evE G F (.and [a]) δ = evE G F a δ := by rw [evE, q2K]; rfl
 rw [e, ha]
theorem z1p {tg : Tg} {body : List Sv -> Option Out} {d : DV} {r : List DV} {δ1 δ2 : List Sv} (h1 : tg.bind d δ = some δ1) (h2 : body δ1 = some (.nx δ2)) : q1R tg body (d :: r) δ = q1R tg body r δ2 := by
 show (match tg.bind d δ with | none => none | some δ1 => match body δ1 with | some (.nx δ2) => q1R tg body r δ2 | o => o) = _
 rw [h1]
 show (match body δ1 with | some (.nx δ2) => q1R tg body r δ2 | o => o) = _
 rw [h2]
end
theorem z0J : ∀ {a b : List Int}, a.Pairwise (· < ·) -> b.Pairwise (· < ·) -> (∀ x, x ∈ a ↔ x ∈ b) -> a = b
 | [], [], _, _, _ => rfl
 | [], y :: b, _, _, h => absurd ((h y).mpr (List.mem_cons_self ..)) (by simp)
 | x :: a, [], _, _, h => absurd ((h x).mp (List.mem_cons_self ..)) (by simp)
 | x :: a, y :: b, ha, hb, h => by
  rw [List.pairwise_cons] at ha hb
  have e : x = y := by
   rcases List.mem_cons.mp ((h x).mp (List.mem_cons_self ..)) with z | z
   ·exact z
   ·rcases List.mem_cons.mp ((h y).mpr (List.mem_cons_self ..)) with w | w
    ·exact w.symm
    ·have h1 := ha.1 y w
     have h2 := hb.1 x z
     omega
  subst e
  rw [z0J ha.2 hb.2 λ z => ?_]
  constructor
  ·intro q
   rcases List.mem_cons.mp ((h z).mp (List.mem_cons_of_mem _ q)) with w | w
   ·subst w; exact absurd (ha.1 _ q) (by omega)
   ·exact w
  ·intro q
   rcases List.mem_cons.mp ((h z).mpr (List.mem_cons_of_mem _ q)) with w | w
   ·subst w; exact absurd (hb.1 _ q) (by omega)
   ·exact w
theorem q7B {x : Int} : ∀ {l : List Int}, l.Pairwise (· < ·) -> x ∉ l -> (insI x l).Pairwise (· < ·)
 | [], _, _ => by simp [insI]
 | y :: l, h, hx => by
  rw [List.pairwise_cons] at h
  unfold insI
  split
  ·rename_i q
   rw [List.pairwise_cons]
   refine ⟨λ z hz => ?_, List.pairwise_cons.mpr h⟩
   rcases List.mem_cons.mp hz with w | w
   ·rw [w]; exact q
   ·have := h.1 z w; omega
  ·rename_i q
   rw [List.pairwise_cons]
   refine ⟨λ z hz => ?_, q7B h.2 λ w => hx (List.mem_cons_of_mem _ w)⟩
   rcases q7i.mp hz with w | w
   ·subst w
    have : z ≠ y := λ e => hx (by rw [e]; exact List.mem_cons_self ..)
    omega
   ·exact h.1 z w
theorem q6d : ∀ {l : List Int}, l.Nodup -> (q3B l).Pairwise (· < ·)
 | [], _ => List.Pairwise.nil
 | x :: l, h => by
  rw [List.nodup_cons] at h
  exact q7B (q6d h.2) λ z => h.1 (q5M.mp z)
theorem q7Y : ∀ {l σ : List Int}, σ.Nodup -> (l.foldl dk σ).Nodup
 | [], _, h => h
 | x :: l, σ, h => by
  rw [List.foldl_cons]
  refine q7Y ?_
  unfold dk
  split
  ·exact h
  ·rename_i q
   rw [List.nodup_append]
   refine ⟨h, by simp, λ a ha b hb e => ?_⟩
   rw [List.mem_singleton] at hb
   subst hb e
   exact q ha
theorem z6B {l t : List Int} (ht : t.Pairwise (· < ·)) (h : ∀ x, x ∈ l ↔ x ∈ t) : q3B (l.foldl dk []) = t :=
 z0J (q6d (q7Y List.nodup_nil)) ht λ x => by rw [q5M, z2i, <- h]; simp
noncomputable def nI (l : List Nat) : List Int := l.map λ (j : Nat) => (j : Int)
theorem z2U (l : List Nat) : iD (nI l) = nD l := by unfold iD nI nD; rw [List.map_map]; rfl
theorem q6Y (p : Nat -> Bool) (n : Nat) : (nI ((List.range n).filter p)).Pairwise (· < ·) := by
 unfold nI
 rw [List.pairwise_map]
 refine List.Pairwise.filter _ (List.Pairwise.imp ?_ List.pairwise_lt_range)
 intro a b h
 omega
theorem z6a {l : List Nat} {x : Int} : x ∈ nI l ↔ ∃ j ∈ l, (j : Int) = x := by unfold nI; rw [List.mem_map]
noncomputable def FI (rows : List (List Int)) : List Nat := (List.range rows.length).filter λ r => rows.idxOf (rows.getD r []) == r
theorem q9q {rows : List (List Int)} {r : List Int} (h : r ∈ rows) : rows.idxOf r < rows.length := List.idxOf_lt_length_of_mem h
theorem q7a {rows : List (List Int)} {r : List Int} (h : r ∈ rows) : rows.getD (rows.idxOf r) [] = r := by
 have hl := q9q h
 rw [List.getD_eq_getElem?_getD, List.getElem?_eq_getElem hl, Option.getD_some]
 exact List.getElem_idxOf hl
theorem q3F (rows : List (List Int)) : q3B ((kI rows).foldl dk []) = nI (FI rows) := by
 refine z6B (q6Y _ _) λ x => ?_
 rw [z6a]
 unfold kI FI
 rw [List.mem_map]
 constructor
 ·rintro ⟨r, hr, rfl⟩
  refine ⟨rows.idxOf r, List.mem_filter.mpr ⟨List.mem_range.mpr (q9q hr), ?_⟩, rfl⟩
  rw [q7a hr, beq_iff_eq]
 ·rintro ⟨j, hj, rfl⟩
  obtain ⟨h1, h2⟩ := List.mem_filter.mp hj
  exact ⟨rows.getD j [], q0U (List.mem_range.mp h1), by rw [beq_iff_eq.mp h2]⟩
theorem q4L {rows : List (List Int)} {i : Nat} (h : i ∈ FI rows) : i < rows.length := List.mem_range.mp (List.mem_filter.mp h).1
theorem q7L (rows : List (List Int)) : (FI rows).length <= rows.length := by
 unfold FI
 have := List.length_filter_le (λ r => rows.idxOf (rows.getD r []) == r) (List.range rows.length)
 rwa [List.length_range] at this
theorem z2C {rows : List (List Int)} (h : 0 < rows.length) : 0 < (FI rows).length := by
 refine List.length_pos_of_mem (a := 0) (List.mem_filter.mpr ⟨List.mem_range.mpr h, ?_⟩)
 cases rows with
 | nil => cases h
 | cons r rs => simp
theorem q8e (rows : List (List Int)) : (kI rows).length = rows.length := by unfold kI; rw [List.length_map]
theorem q2M (rows : List (List Int)) (n m : Nat) (R : Rect n m rows) (hn : 0 < n) (hn2 : n <= 1000) (hm2 : m <= 1000) : run G T fu (k + 2) 3 [tT rows] = some (.v (.lst (iD (kI (flip m rows)))) true) := by
 rw [q0P (fd := q1r) rfl rfl]
 unfold q1r
 have R' := q2A R
 exact q1B (q1b (q1d (q0h (l := [(tT (flip m rows), .strong)]) (q0b (q0h (l := [(tT rows, .strong)]) rfl rfl (z0t rows n m R hn hn2 hm2)) q0g) rfl (q2S (flip m rows) (by rw [R'.1]; exact hm2)))))
theorem q9D (rows : List (List Int)) (n m : Nat) (R : Rect n m rows) (hn : 0 < n) (hn2 : n <= 60) (hm2 : m <= 60) : run G T fu (k + 3) 4 [tT rows] = some (.v (tT (sub rows (FI rows) (FI (flip m rows)))) false) := by
 rw [q0P (fd := q2Z) rfl rfl]
 unfold q2Z
 have R' := q2A R
 have e1 := q5K (F := run G T fu (k + 2)) (δ := [.val (tT rows)]) (e := .call 2 [.var 0]) (r := kI rows) (q0h (l := [(tT rows, .strong)]) rfl rfl (q2S (k := k + 1) rows (by rw [R.1]; omega))) (by rw [q8e, R.1]; exact hn2)
 have e2 := q5K (F := run G T fu (k + 2)) (δ := [.val (tT rows)]) (e := .call 3 [.var 0]) (r := kI (flip m rows)) (q0h (l := [(tT rows, .strong)]) rfl rfl (q2M rows n m R hn (by omega) (by omega))) (by rw [q8e, R'.1]; exact hm2)
 rw [q3F, z2U] at e1 e2
 have e3 := q8L (fu := fu) (k := k + 1) rows n m R (FI rows) (FI (flip m rows)) (λ i hi => by have := q4L hi; rw [R.1] at this; exact this) (λ j hj => by have := q4L hj; rw [R'.1] at this; exact this) (by have := q7L rows; rw [R.1] at this; omega) (by have := q7L (flip m rows); rw [R'.1] at this; omega)
 exact q1B (q1b (q1d (q0h (l := [(tT rows, .strong), (.lst (nD (FI rows)), .fresh), (.lst (nD (FI (flip m rows))), .fresh)]) (q0b (q0a rfl) (q0b e1 (q0b e2 q0g))) rfl e3)))
theorem b_le {a b : ME} {i j : Int} {cx cy : Cl} (ha : evE G F a δ = some (.ok (.int i) cx)) (hb : evE G F b δ = some (.ok (.int j) cy)) : evE G F (.cmp .LtE a b) δ = some (.ok (.bl (decide (i <= j))) .strong) := q1Q ha hb rfl
noncomputable def sm (a b : Nat) : Bool := decide (a < 6) && decide (b < 6)
theorem z2I {rows : List (List Int)} {I J : List Nat} (h : 0 < I.length) : ∃ r rs, sub rows I J = r :: rs /\ r.length = J.length := by
 cases I with
 | nil => cases h
 | cons i I => exact ⟨_, _, rfl, by simp⟩
theorem q8O (rows : List (List Int)) (n m : Nat) (R : Rect n m rows) (hn : 0 < n) (hn2 : n <= 60) (hm2 : m <= 60) : run G T fu (k + 4) 5 [tT rows] = some (.v (.bl (sm (FI rows).length (FI (flip m rows)).length)) false) := by
 rw [q0P (fd := q2H) rfl rfl]
 unfold q2H
 have e0 := q9D (fu := fu) (k := k) rows n m R hn hn2 hm2
 obtain ⟨r, rs, hs, hr⟩ := z2I (rows := rows) (J := FI (flip m rows)) (z2C (rows := rows) (by rw [R.1]; exact hn))
 have hl : (sub rows (FI rows) (FI (flip m rows))).length = (FI rows).length := by unfold sub; rw [List.length_map]
 rw [hs] at e0 hl
 have l1 : evE G (run G T fu (k + 3)) (.bi .len [.var 1]) [.val (tT rows), .val (tT (r :: rs))] = some (.ok (.int (FI rows).length) .strong) := by
  have t := q2p (F := run G T fu (k + 3)) (δ := [.val (tT rows), .val (tT (r :: rs))]) (e := .var 1) (ds := (r :: rs).map λ r => .tup (iD r)) (c := .strong) rfl
  rw [List.length_map, hl] at t
  exact t
 have l2 : evE G (run G T fu (k + 3)) (.bi .len [.ix (.var 1) (.int 0)]) [.val (tT rows), .val (tT (r :: rs))] = some (.ok (.int (FI (flip m rows)).length) .strong) := by
  have t := q2p (F := run G T fu (k + 3)) (δ := [.val (tT rows), .val (tT (r :: rs))]) (q1f (q0a (n := 1) (d := tT (r :: rs)) rfl) (q0e (i := 0)) (q3R (rows := r :: rs) (i := 0) (by simp)))
  rw [show (iD ((r :: rs).getD 0 [])).length = (FI (flip m rows)).length by unfold iD; rw [List.length_map]; exact hr] at t
  exact t
 have g5 : ∀ δ : List Sv, evE G (run G T fu (k + 3)) (.glb "SMALL_LINES") δ = some (.ok (.int 5) .strong) := λ δ => rfl
 refine q1B (q0n (q0j (d := tT (r :: rs)) (cl := .strong) (q0h (l := [(tT rows, .strong)]) rfl rfl e0) rfl) (q1b (q1d (cl := .strong) ?_)))
 have t1 := b_le l1 (g5 _)
 have t2 := b_le l2 (g5 _)
 have d1 : decide (((FI rows).length : Int) <= 5) = decide ((FI rows).length < 6) := by rw [decide_eq_decide]; omega
 have d2 : decide (((FI (flip m rows)).length : Int) <= 5) = decide ((FI (flip m rows)).length < 6) := by rw [decide_eq_decide]; omega
 rw [d1] at t1
 rw [d2] at t2
 unfold sm
 cases q : decide ((FI rows).length < 6) with
 | true => rw [q] at t1; exact z3C t1 (z3y t2)
 | false => rw [q] at t1; exact z6v t1
theorem q5T {α : Type} {g : DV -> Option Rc} {h f : α -> DV} {p : α -> Bool} : ∀ {l : List α}, (∀ a ∈ l, g (h a) = some (if p a then .item (f a) else .skip)) -> q0E g (l.map h) = some ((l.filter p).map f)
 | [], _ => rfl
 | a :: l, q => by
  have h0 := q a (List.mem_cons_self ..)
  have ih := q5T (g := g) (h := h) (f := f) (p := p) (l := l) λ b hb => q b (List.mem_cons_of_mem _ hb)
  cases e : p a with
  | true =>
   rw [e] at h0
   show (match g (h a) with | none => none | some .skip => q0E g (l.map h) | some (.item x) => match q0E g (l.map h) with | none => none | some xs => some (x :: xs)) = _
   rw [h0, List.filter_cons_of_pos e, List.map_cons]
   show (match q0E g (l.map h) with | none => none | some xs => some (f a :: xs)) = _
   rw [ih]
  | false =>
   rw [e] at h0
   show (match g (h a) with | none => none | some .skip => q0E g (l.map h) | some (.item x) => match q0E g (l.map h) with | none => none | some xs => some (x :: xs)) = _
   rw [h0, List.filter_cons_of_neg (by rw [e]; simp)]
   exact ih
theorem q3a {α : Type} {l : List α} {h f : α -> DV} {p : α -> Bool} {elt it cd : ME} {tg : Tg} {fr : List (Option Nat)} (hw : q0L (evE G F it δ) = some (.ok (l.map h) cl)) (hc : cl ≠ .weak) (hl : l.length <= mostLen)
  (q : ∀ a ∈ l, ∃ δ', tg.bind (h a) (q0s fr δ) = some δ' /\ tstD (evE G F cd δ') = some (.ok (p a)) /\ ∃ c, evE G F elt δ' = some (.ok (f a) c) /\ stro (f a) c = true) : evE G F (.compi elt tg it cd fr) δ = some (.ok (.lst ((l.filter p).map f)) .fresh) := by
 show Ri.thn (q0L (evE G F it δ)) (λ ds c => if c = .weak \/ mostLen < ds.length then none else q1x (q0E (λ d => (tg.bind d (q0s fr δ)).bind λ δ' => Rc.test (tstD (evE G F cd δ')) (Rc.of (evE G F elt δ'))) ds)) = _
 rw [hw, q5D, if_neg (by rintro (z | z); exact hc z; rw [List.length_map] at z; omega), q5T (f := f) (p := p) (λ a ha => ?_)]
 ·rfl
 ·obtain ⟨δ', e1, e2, c, e3, e4⟩ := q a ha
  rw [e1, Option.bind_some, e2, e3]
  cases p a with
  | false => rfl
  | true =>
   show (if stro (f a) c then some (Rc.item (f a)) else none) = _
   rw [if_pos e4]; rfl
end k34
end
section
namespace k34
open PySem L2
section
variable {α β : Type}
noncomputable def mA (ap : α -> α -> Bool) : List α -> List α
 | [] => []
 | e :: l => if (mA ap l).length <= (e :: mA ap (l.filter (ap e))).length then e :: mA ap (l.filter (ap e)) else mA ap l
termination_by l => l.length
decreasing_by
 all_goals simp only [List.length_cons]
 all_goals first | exact Nat.lt_succ_self _ | exact Nat.lt_succ_of_le (List.length_filter_le ..) | exact Nat.lt_succ_of_le (by rw [List.length_unattach]; exact Nat.le_trans (List.length_filter_le ..) (by rw [List.length_attach]; exact Nat.le_refl _))
theorem q4Y {ap : α -> α -> Bool} : mA ap [] = [] := by unfold mA; rfl
theorem q3r {ap : α -> α -> Bool} {e : α} {l : List α} : mA ap (e :: l) = if (mA ap l).length <= (e :: mA ap (l.filter (ap e))).length then e :: mA ap (l.filter (ap e)) else mA ap l := by
 rw [mA]
noncomputable def fA (ap : α -> α -> Bool) (l : List α) : Nat := (mA ap l).length
theorem z3T {ap : α -> α -> Bool} {e : α} {l : List α} (z : Nat) : fA ap (e :: l) <= z ↔ 1 + fA ap (l.filter (ap e)) <= z /\ fA ap l <= z := by
 unfold fA
 rw [q3r]
 by_cases h : (mA ap l).length <= (e :: mA ap (l.filter (ap e))).length
 ·rw [if_pos h]
  rw [List.length_cons] at h ⊢
  omega
 ·rw [if_neg h]
  rw [List.length_cons] at h
  omega
theorem q4R (ap : α -> α -> Bool) : ∀ (n : Nat) (l : List α), l.length <= n -> (mA ap l).Sublist l
 | _, [], _ => by rw [q4Y]; exact List.Sublist.refl _
 | 0, _ :: _, h => by simp at h
 | n + 1, e :: l, h => by
  rw [List.length_cons] at h
  rw [q3r]
  split
  ·exact ((q4R ap n (l.filter (ap e)) (Nat.le_trans (List.length_filter_le ..) (by omega))).trans List.filter_sublist).cons₂ _
  ·exact (q4R ap n l (by omega)).cons _
theorem q5F (ap : α -> α -> Bool) : ∀ (n : Nat) (l : List α), l.length <= n -> (mA ap l).Pairwise λ a b => ap a b = true
 | _, [], _ => by rw [q4Y]; exact List.Pairwise.nil
 | 0, _ :: _, h => by simp at h
 | n + 1, e :: l, h => by
  rw [List.length_cons] at h
  rw [q3r]
  have hl : (l.filter (ap e)).length <= n := Nat.le_trans (List.length_filter_le ..) (by omega)
  split
  ·refine List.pairwise_cons.mpr ⟨λ x hx => ?_, q5F ap n _ hl⟩
   exact (List.mem_filter.mp ((q4R ap n _ hl).subset hx)).2
  ·exact q5F ap n l (by omega)
theorem z0P {ap : β -> β -> Bool} {h : α -> β} : ∀ (n : Nat) (l : List α), l.length <= n -> mA ap (l.map h) = (mA (λ a b => ap (h a) (h b)) l).map h
 | _, [], _ => by rw [List.map_nil, q4Y, q4Y]; rfl
 | 0, _ :: _, h => by simp at h
 | n + 1, e :: l, q => by
  rw [List.length_cons] at q
  rw [List.map_cons, q3r, q3r]
  have e1 : (l.map h).filter (ap (h e)) = (l.filter λ b => ap (h e) (h b)).map h := by rw [List.filter_map]; rfl
  rw [e1, z0P n (l.filter λ b => ap (h e) (h b)) (Nat.le_trans (List.length_filter_le ..) (by omega)), z0P n l (by omega), List.length_cons, List.length_cons, List.length_map, List.length_map]
  split <;> rfl
theorem z2o {ap : α -> α -> Bool} {X : List α} (z : Nat) : ∀ {R : List α}, R.Pairwise (λ a b => ap a b = false) -> (fA ap (R ++ X) <= z ↔ fA ap X <= z /\ ∀ c ∈ R, 1 + fA ap (X.filter (ap c)) <= z)
 | [], _ => by simp
 | e :: R, h => by
  obtain ⟨h1, h2⟩ := List.pairwise_cons.mp h
  have e1 : R.filter (ap e) = [] := List.filter_eq_nil_iff.mpr λ x hx => by rw [h1 x hx]; exact Bool.false_ne_true
  rw [List.cons_append, z3T, List.filter_append, e1, List.nil_append, z2o z h2]
  constructor
  ·rintro ⟨a, b, c⟩
   refine ⟨b, λ x hx => ?_⟩
   rcases List.mem_cons.mp hx with q | q
   ·rw [q]; exact a
   ·exact c x q
  ·rintro ⟨a, b⟩
   exact ⟨b e (List.mem_cons_self ..), a, λ x hx => b x (List.mem_cons_of_mem _ hx)⟩
theorem z1U {l : List Nat} {p : Nat -> Bool} {h : Nat -> Nat} (z : Nat) : ∀ {b : Nat}, (l.foldl (λ acc c => if p c then max acc (h c) else acc) b <= z ↔ b <= z /\ ∀ c ∈ l, p c = true -> h c <= z) := by
 induction l with
 | nil => intro b; simp
 | cons a l ih =>
  intro b
  rw [List.foldl_cons, ih]
  cases q : p a with
  | false =>
   rw [if_neg Bool.false_ne_true]
   constructor
   ·rintro ⟨x, y⟩
    refine ⟨x, λ c hc hp => ?_⟩
    rcases List.mem_cons.mp hc with e | e
    ·rw [e, q] at hp; cases hp
    ·exact y c e hp
   ·rintro ⟨x, y⟩
    exact ⟨x, λ c hc => y c (List.mem_cons_of_mem _ hc)⟩
  | true =>
   rw [if_pos rfl, Nat.max_le]
   constructor
   ·rintro ⟨⟨x, w⟩, y⟩
    refine ⟨x, λ c hc hp => ?_⟩
    rcases List.mem_cons.mp hc with e | e
    ·rw [e]; exact w
    ·exact y c e hp
   ·rintro ⟨x, y⟩
    exact ⟨⟨x, y a (List.mem_cons_self ..) q⟩, λ c hc => y c (List.mem_cons_of_mem _ hc)⟩
end
noncomputable abbrev En := Nat × Nat
noncomputable def kp (f : Nat -> Nat -> Int) (p q : En) : Bool := if f q.1 q.2 != f p.1 p.2 then false else (f p.1 q.2 != f p.1 p.2 || f q.1 p.2 != f p.1 p.2)
theorem z4A (f : Nat -> Nat -> Int) (p : En) : kp f p p = false := by unfold kp; simp
noncomputable def rowE (f : Nat -> Nat -> Int) (w : Int) (m r : Nat) : List En := ((List.range m).filter λ c => f r c == w).map λ c => (r, c)
noncomputable def q4I (f : Nat -> Nat -> Int) (w : Int) (m : Nat) : Nat -> Nat -> List En
 | 0, _ => []
 | n + 1, r => rowE f w m r ++ q4I f w m n (r + 1)
theorem q8q (f : Nat -> Nat -> Int) (w : Int) (m r : Nat) : (rowE f w m r).Pairwise λ a b => kp f a b = false := by
 unfold rowE
 rw [List.pairwise_map]
 refine List.Pairwise.imp_of_mem (R := λ _ _ => True) (λ {a b} ha hb _ => ?_) (List.pairwise_of_forall λ _ _ => trivial)
 have h1 := eq_of_beq (List.mem_filter.mp ha).2
 have h2 := eq_of_beq (List.mem_filter.mp hb).2
 unfold kp
 simp only [h1, h2]
 simp
noncomputable def gM (f : Nat -> Nat -> Int) (w : Int) (m : Nat) : Nat -> Nat -> List En -> Nat
 | 0, _, ch => ch.length
 | n + 1, r, ch => (List.range m).foldl (λ acc c => if f r c == w && ch.all (λ x => kp f x (r, c)) then max acc (gM f w m n (r + 1) (ch ++ [(r, c)])) else acc) (gM f w m n (r + 1) ch)
theorem z1M (f : Nat -> Nat -> Int) (w : Int) (m : Nat) : ∀ (n r : Nat) (ch : List En), gM f w m n r ch = ch.length + fA (kp f) ((q4I f w m n r).filter λ e => ch.all λ x => kp f x e)
 | 0, r, ch => by unfold gM q4I fA; rw [List.filter_nil, q4Y]; rfl
 | n + 1, r, ch => by
  have key : ∀ z, gM f w m (n + 1) r ch <= z ↔ ch.length + fA (kp f) ((q4I f w m (n + 1) r).filter λ e => ch.all λ x => kp f x e) <= z := λ z => by
   unfold gM q4I
   rw [z1U, z1M f w m n, List.filter_append]
   have hp : ((rowE f w m r).filter λ e => ch.all λ x => kp f x e).Pairwise λ a b => kp f a b = false := (q8q f w m r).sublist List.filter_sublist
   have hf : ∀ c : En, ((q4I f w m n (r + 1)).filter λ e => ch.all λ x => kp f x e).filter (kp f c) = (q4I f w m n (r + 1)).filter λ e => (ch ++ [c]).all λ x => kp f x e := λ c => by
    rw [List.filter_filter]
    congr 1
    funext e
    rw [List.all_append, List.all_cons, List.all_nil, Bool.and_true, Bool.and_comm]
   by_cases hz : ch.length <= z
   ·obtain ⟨y, rfl⟩ : ∃ y, z = ch.length + y := ⟨z - ch.length, by omega⟩
    rw [Nat.add_le_add_iff_left, Nat.add_le_add_iff_left, z2o y hp]
    refine and_congr_right λ _ => ⟨λ h c hc => ?_, λ h c hc hcp => ?_⟩
    ·obtain ⟨h1, h2⟩ := List.mem_filter.mp hc
     obtain ⟨c', h3, rfl⟩ := List.mem_map.mp h1
     obtain ⟨h4, h5⟩ := List.mem_filter.mp h3
     have q := h c' h4 (by rw [h5, h2]; rfl)
     rw [z1M f w m n, List.length_append, List.length_singleton, <- hf] at q
     omega
    ·rw [Bool.and_eq_true] at hcp
     rw [z1M f w m n, List.length_append, List.length_singleton, <- hf]
     have q := h (r, c) (List.mem_filter.mpr ⟨List.mem_map.mpr ⟨c, List.mem_filter.mpr ⟨hc, hcp.1⟩, rfl⟩, hcp.2⟩)
     omega
   ·constructor
    ·rintro ⟨a, _⟩; omega
    ·intro a; omega
  exact Nat.le_antisymm ((key _).mpr (Nat.le_refl _)) ((key _).mp (Nat.le_refl _))
theorem z6r (f : Nat -> Nat -> Int) (w : Int) (n m : Nat) : gM f w m n 0 [] = fA (kp f) (q4I f w m n 0) := by
 rw [z1M, List.length_nil, Nat.zero_add, List.filter_eq_self.mpr (by intro _ _; rfl)]
noncomputable def ltE (p q : En) : Prop := p.1 < q.1 \/ (p.1 = q.1 /\ p.2 < q.2)
noncomputable def q2o (f : Nat -> Nat -> Int) (w : Int) (J : List Nat) (I : List Nat) : List En := I.flatMap λ r => (J.filter λ c => f r c == w).map λ c => (r, c)
theorem q6m {f : Nat -> Nat -> Int} {w : Int} {J : List Nat} (hJ : J.Pairwise (· < ·)) : ∀ {I : List Nat}, I.Pairwise (· < ·) -> (q2o f w J I).Pairwise ltE
 | [], _ => List.Pairwise.nil
 | r :: I, h => by
  obtain ⟨h1, h2⟩ := List.pairwise_cons.mp h
  show (((J.filter λ c => f r c == w).map λ c => (r, c)) ++ q2o f w J I).Pairwise ltE
  rw [List.pairwise_append]
  refine ⟨?_, q6m hJ h2, λ a ha b hb => ?_⟩
  ·rw [List.pairwise_map]
   exact ((hJ.sublist List.filter_sublist).imp λ {a b} q => .inr ⟨rfl, q⟩)
  ·obtain ⟨c, _, rfl⟩ := List.mem_map.mp ha
   obtain ⟨r', hr', hb'⟩ := List.mem_flatMap.mp hb
   obtain ⟨c', _, rfl⟩ := List.mem_map.mp hb'
   exact .inl (h1 r' hr')
theorem q5k {f : Nat -> Nat -> Int} {w : Int} {I J : List Nat} {p : En} (h : p ∈ q2o f w J I) : p.1 ∈ I /\ p.2 ∈ J /\ f p.1 p.2 = w := by
 obtain ⟨r, hr, hp⟩ := List.mem_flatMap.mp h
 obtain ⟨c, hc, rfl⟩ := List.mem_map.mp hp
 obtain ⟨h1, h2⟩ := List.mem_filter.mp hc
 exact ⟨hr, h1, eq_of_beq h2⟩
theorem q8p {J : List Nat} {p : Nat -> Bool} : J.filter p = ((List.range J.length).filter λ j => p (J.getD j 0)).map λ j => J.getD j 0 := by
 have e : J = (List.range J.length).map λ j => J.getD j 0 := by
  apply List.ext_getElem?
  intro i
  rw [List.getElem?_map]
  by_cases h : i < J.length
  ·rw [List.getElem?_range h, List.getElem?_eq_getElem h, Option.map_some, List.getD_eq_getElem?_getD, List.getElem?_eq_getElem h]
   rfl
  ·rw [List.getElem?_eq_none (by omega), List.getElem?_eq_none (by rw [List.length_range]; omega)]
   rfl
 conv => lhs; rw [e]
 rw [List.filter_map]
 rfl
theorem q8h {f : Nat -> Nat -> Int} {w : Int} {I J : List Nat} : ∀ (n r : Nat), r + n = I.length -> q2o f w J (I.drop r) = (q4I (λ i j => f (I.getD i 0) (J.getD j 0)) w J.length n r).map λ p => (I.getD p.1 0, J.getD p.2 0)
 | 0, r, h => by rw [List.drop_of_length_le (by omega)]; rfl
 | n + 1, r, h => by
  have hr : r < I.length := by omega
  rw [List.drop_eq_getElem_cons hr]
  unfold q4I
  rw [List.map_append, <- q8h n (r + 1) (by omega)]
  show ((J.filter λ c => f I[r] c == w).map λ c => (I[r], c)) ++ q2o f w J (I.drop (r + 1)) = _
  congr 1
  unfold rowE
  rw [q8p, List.map_map, List.map_map]
  have e : I.getD r 0 = I[r] := by rw [List.getD_eq_getElem?_getD, List.getElem?_eq_getElem hr]; rfl
  have e' : (λ c => (λ i j => f (I.getD i 0) (J.getD j 0)) r c == w) = λ j => f I[r] (J.getD j 0) == w := by
   funext c
   show (f (I.getD r 0) _ == w) = _
   rw [e]
  rw [e']
  apply List.map_congr_left
  intro j _
  show (I[r], J.getD j 0) = (I.getD r 0, J.getD j 0)
  rw [e]
theorem z4q (f : Nat -> Nat -> Int) (w : Int) (I J : List Nat) : (mA (kp f) (q2o f w J I)).length = gM (λ i j => f (I.getD i 0) (J.getD j 0)) w J.length I.length 0 [] := by
 rw [z6r]
 have e := q8h (f := f) (w := w) (I := I) (J := J) I.length 0 (by omega)
 rw [List.drop_zero] at e
 rw [e, z0P _ _ (Nat.le_refl _), List.length_map]
 rfl
end k34
end
section
namespace k34
open PySem L2
variable {fu k : Nat} {F : Nat -> List DV -> Option Ou} {δ : List Sv} {ds : List DV} {cl : Cl} {n m : Nat} {f : Nat -> Nat -> Int} {d : DV}
noncomputable def Look (d : DV) (n m : Nat) (f : Nat -> Nat -> Int) : Prop := ∀ i, i < n -> ∃ x, ixD d (.int (i : Int)) = some x /\ ∀ j, j < m -> ixD x (.int (j : Int)) = some (.int (f i j))
noncomputable def at2 (rows : List (List Int)) (i j : Nat) : Int := (rows.getD i []).getD j 0
theorem q7q {rows : List (List Int)} (R : Rect n m rows) {i : Nat} (h : i < n) : (rows.getD i []).length = m := R.2 _ (q0U (by rw [R.1]; exact h))
theorem q5U {rows : List (List Int)} (R : Rect n m rows) : Look (tT rows) n m (at2 rows) := λ i hi => ⟨_, q3R (by rw [R.1]; exact hi), λ j hj => q5f (by rw [q7q R hi]; exact hj)⟩
theorem z6F {rows : List (List Int)} (R : Rect n m rows) : Look (rL rows) n m (at2 rows) := λ i hi => ⟨_, q3t (by rw [R.1]; exact hi), λ j hj => q5H (by rw [q7q R hi]; exact hj)⟩
noncomputable def pD (p : En) : DV := .tup [.int (p.1 : Int), .int (p.2 : Int)]
theorem q5p {a b e : ME} {i j : Nat} {ci cj : Cl} (L : Look d n m f) (ha : evE G F a δ = some (.ok d .strong)) (hb : evE G F b δ = some (.ok (.int (i : Int)) ci)) (he : evE G F e δ = some (.ok (.int (j : Int)) cj)) (hi : i < n) (hj : j < m) : evE G F (.ix (.ix a b) e) δ = some (.ok (.int (f i j)) .strong) := by
 obtain ⟨x, h1, h2⟩ := L i hi
 exact q1f (cx := .strong) (q1f (cx := .strong) ha hb h1) he (h2 j hj)
theorem q4M {e : ME} {p : En} (h : evE G F e δ = some (.ok (pD p) .strong)) : evE G F (.ix e (.int 0)) δ = some (.ok (.int (p.1 : Int)) .strong) := q1f (cx := .strong) h q0e rfl
theorem q4K {e : ME} {p : En} (h : evE G F e δ = some (.ok (pD p) .strong)) : evE G F (.ix e (.int 1)) δ = some (.ok (.int (p.2 : Int)) .strong) := q1f (cx := .strong) h q0e rfl
theorem b_ne {a b : ME} {i j : Int} {cx cy : Cl} (ha : evE G F a δ = some (.ok (.int i) cx)) (hb : evE G F b δ = some (.ok (.int j) cy)) : evE G F (.cmp .NotEq a b) δ = some (.ok (.bl (i != j)) .strong) := q1Q ha hb rfl
theorem z2G {a b : ME} {x y : Bool} {cx : Cl} (ha : evE G F a δ = some (.ok (.bl x) .strong)) (hb : evE G F b δ = some (.ok (.bl y) .strong)) : evE G F (.or [a, b]) δ = some (.ok (.bl (x || y)) .strong) := by
 cases x with
 | true => exact z3J ha
 | false => rw [Bool.false_or]; exact q7g ha hb
theorem q7x {p q : En} {w : Int} {wv : ME} (L : Look d n m f) (h0 : evE G F (.var 0) δ = some (.ok d .strong)) (h1 : evE G F (.var 1) δ = some (.ok (pD p) .strong)) (h2 : evE G F (.var 2) δ = some (.ok (pD q) .strong)) (h3 : evE G F (.var 3) δ = some (.ok (.int w) .strong)) (p1 : p.1 < n) (p2 : p.2 < m) (q1 : q.1 < n) (q2 : q.2 < m) :
  evE G F (.or [.cmp .NotEq (.ix (.ix (.var 0) (.ix (.var 1) (.int 0))) (.ix (.var 2) (.int 1))) (.var 3), .cmp .NotEq (.ix (.ix (.var 0) (.ix (.var 2) (.int 0))) (.ix (.var 1) (.int 1))) (.var 3)]) δ = some (.ok (.bl (f p.1 q.2 != w || f q.1 p.2 != w)) .strong) :=
 z2G (cx := .strong) (b_ne (q5p L h0 (q4M h1) (q4K h2) p1 q2) h3) (b_ne (q5p L h0 (q4M h2) (q4K h1) q1 p2) h3)
theorem z0x (L : Look d n m f) {p q : En} (p1 : p.1 < n) (p2 : p.2 < m) (q1 : q.1 < n) (q2 : q.2 < m) : run G T fu (k + 1) 9 [d, pD p, pD q] = some (.v (.bl (kp f p q)) false) := by
 rw [q0P (fd := q1P) rfl rfl]
 unfold q1P kp
 have s1 : evE G (run G T fu k) (.ix (.ix (.var 0) (.ix (.var 1) (.int 0))) (.ix (.var 1) (.int 1))) (q0q 4 [d, pD p, pD q]) = some (.ok (.int (f p.1 p.2)) .strong) := q5p L (q0a rfl) (q4M (q0a rfl)) (q4K (q0a rfl)) p1 p2
 have t1 := b_ne (F := run G T fu k) (δ := [.val d, .val (pD p), .val (pD q), .val (.int (f p.1 p.2))]) (q5p (a := .var 0) (b := .ix (.var 2) (.int 0)) (e := .ix (.var 2) (.int 1)) L (q0a rfl) (q4M (q0a rfl)) (q4K (q0a rfl)) q1 q2) (q0a (n := 3) rfl)
 refine q1B (q0n (q0j s1 rfl) ?_)
 cases h : f q.1 q.2 != f p.1 p.2 with
 | true =>
  rw [h] at t1
  rw [if_pos rfl]
  exact q4U (q0f t1) (q1b rfl)
 | false =>
  rw [h] at t1
  rw [if_neg Bool.false_ne_true]
  exact q0D (q0f t1) (q1b (q1d (q7x (wv := .var 3) L (q0a rfl) (q0a rfl) (q0a rfl) (q0a rfl) p1 p2 q1 q2)))
theorem z7O (p q : En) : cmpD .Eq (pD p) (pD q) = some (p == q) := by
 have h : deq (pD p) (pD q) = (p == q) := by
  obtain ⟨a, b⟩ := p
  obtain ⟨c, e⟩ := q
  show deq (.tup [.int a, .int b]) (.tup [.int c, .int e]) = _
  simp only [deq, deqs]
  have h1 : ((a : Int) == (c : Int)) = (a == c) := by rw [Bool.eq_iff_iff, beq_iff_eq, beq_iff_eq]; omega
  have h2 : ((b : Int) == (e : Int)) = (b == e) := by rw [Bool.eq_iff_iff, beq_iff_eq, beq_iff_eq]; omega
  rw [h1, h2, Bool.and_true]
  rfl
 show (if (DV.plain 60 (pD p) && DV.plain 60 (pD q)) = true then some (deq (pD p) (pD q)) else none) = _
 have pl : ∀ p : En, DV.plain 60 (pD p) = true := λ p => rfl
 rw [pl, pl, h]
 rfl
theorem q5u (L : Look d n m f) {p q : En} (p1 : p.1 < n) (p2 : p.2 < m) (q1 : q.1 < n) (q2 : q.2 < m) : run G T fu (k + 1) 18 [d, pD p, pD q] = some (.v (.bl (kp f p q)) false) := by
 rw [q0P (fd := q2i) rfl rfl]
 unfold q2i
 have s1 : evE G (run G T fu k) (.ix (.ix (.var 0) (.ix (.var 1) (.int 0))) (.ix (.var 1) (.int 1))) (q0q 4 [d, pD p, pD q]) = some (.ok (.int (f p.1 p.2)) .strong) := q5p L (q0a rfl) (q4M (q0a rfl)) (q4K (q0a rfl)) p1 p2
 have t1 := z2G (cx := .strong) (q1Q (G := G) (F := run G T fu k) (δ := [.val d, .val (pD p), .val (pD q), .val (.int (f p.1 p.2))]) (a := .var 1) (b := .var 2) (q0a rfl) (q0a rfl) (z7O p q)) (b_ne (F := run G T fu k) (δ := [.val d, .val (pD p), .val (pD q), .val (.int (f p.1 p.2))]) (q5p (a := .var 0) (b := .ix (.var 2) (.int 0)) (e := .ix (.var 2) (.int 1)) L (q0a rfl) (q4M (q0a rfl)) (q4K (q0a rfl)) q1 q2) (q0a (n := 3) rfl))
 refine q1B (q0n (q0j s1 rfl) ?_)
 by_cases hpq : p = q
 ·subst hpq
  rw [beq_self_eq_true, Bool.true_or] at t1
  rw [z4A]
  exact q4U (q0f t1) (q1b rfl)
 ·rw [beq_eq_false_iff_ne.mpr hpq, Bool.false_or] at t1
  unfold kp
  cases h : f q.1 q.2 != f p.1 p.2 with
  | true =>
   rw [h] at t1
   rw [if_pos rfl]
   exact q4U (q0f t1) (q1b rfl)
  | false =>
   rw [h] at t1
   rw [if_neg Bool.false_ne_true]
   exact q0D (q0f t1) (q1b (q1d (q7x (wv := .var 3) L (q0a rfl) (q0a rfl) (q0a rfl) (q0a rfl) p1 p2 q1 q2)))
theorem z7X {c a b : ME} {o : Option Re} (h : tstD (evE G F c δ) = some (.ok true)) (ha : evE G F a δ = o) : evE G F (.ite c a b) δ = o := by rw [z2B h, if_pos rfl]; exact ha
theorem z6Z {c a b : ME} {o : Option Re} (h : tstD (evE G F c δ) = some (.ok false)) (hb : evE G F b δ = o) : evE G F (.ite c a b) δ = o := by rw [z2B h, if_neg Bool.false_ne_true]; exact hb
theorem q9z (l : List En) : DV.plains 59 (l.map pD) = true := q3d λ d hd => by
 obtain ⟨p, _, rfl⟩ := List.mem_map.mp hd
 rfl
theorem z2q (l : List En) : cmpD .Eq (.lst (l.map pD)) (.lst []) = some (l == []) := by
 have p1 : DV.plain 60 (.lst (l.map pD)) = true := q9z l
 show (if (DV.plain 60 (.lst (l.map pD)) && DV.plain 60 (.lst [])) = true then some (deq (.lst (l.map pD)) (.lst [])) else none) = _
 rw [p1]
 cases l with
 | nil => rfl
 | cons a r => rfl
theorem z2b (ds : List DV) (h : Nat) : cutD ds (some (h : Int)) none = ds.drop h := by
 unfold cutD slIx
 dsimp only
 rw [if_neg (by omega), Int.toNat_natCast]
 by_cases q : h <= ds.length
 ·rw [Nat.min_eq_left q, List.take_of_length_le (by rw [List.length_drop]; omega)]
 ·rw [Nat.min_eq_right (by omega), List.drop_length, List.take_nil, List.drop_of_length_le (by omega)]
theorem z2A (ds : List DV) (h : Nat) : cutD ds none (some (h : Int)) = ds.take h := by
 unfold cutD slIx
 dsimp only
 rw [if_neg (by omega), Int.toNat_natCast, List.drop_zero, Nat.sub_zero]
 by_cases q : h <= ds.length
 ·rw [Nat.min_eq_left q]
 ·rw [Nat.min_eq_right (by omega), List.take_length, List.take_of_length_le (by omega)]
theorem z0R {a b : ME} {c c1 : Cl} {h : Nat} (ha : evE G F a δ = some (.ok (.lst ds) c)) (hh : evE G F b δ = some (.ok (.int (h : Int)) c1)) : evE G F (.slf a b) δ = some (.ok (.lst (ds.drop h)) (Cl.anew c c)) := by
 unfold evE
 rw [ha, q0X, hh, q0X, <- z2b]
 rfl
theorem q9O {a b : ME} {c c1 : Cl} {h : Nat} (ha : evE G F a δ = some (.ok (.lst ds) c)) (hh : evE G F b δ = some (.ok (.int (h : Int)) c1)) : evE G F (.slt a b) δ = some (.ok (.lst (ds.take h)) (Cl.anew c c)) := by
 unfold evE
 rw [ha, q0X, hh, q0X, <- z2A]
 rfl
theorem q6O {a b : ME} {x y : List DV} {cx cy : Cl} (ha : evE G F a δ = some (.ok (.lst x) cx)) (hb : evE G F b δ = some (.ok (.lst y) cy)) (h : x.length + y.length <= 1000) : evE G F (.bin .Add a b) δ = some (.ok (.lst (x ++ y)) (Cl.anew cx cy)) :=
 q4o ha hb (if_pos (Nat.le_trans h (by decide)))
theorem b_ge {a b : ME} {i j : Int} {cx cy : Cl} (ha : evE G F a δ = some (.ok (.int i) cx)) (hb : evE G F b δ = some (.ok (.int j) cy)) : evE G F (.cmp .GtE a b) δ = some (.ok (.bl (decide (j <= i))) .strong) := q1Q ha hb rfl
theorem q6c {l : List En} {p : En -> Bool} {it cd : ME} {fr : List (Option Nat)} (hw : q0L (evE G F it δ) = some (.ok (l.map pD) cl)) (hc : cl ≠ .weak) (hl : l.length <= 1000)
  (h : ∀ a ∈ l, ∃ δ', (Tg.one 0).bind (pD a) (q0s fr δ) = some δ' /\ tstD (evE G F cd δ') = some (.ok (p a)) /\ evE G F (.var 0) δ' = some (.ok (pD a) .strong)) : evE G F (.compi (.var 0) (.one 0) it cd fr) δ = some (.ok (.lst ((l.filter p).map pD)) .fresh) :=
 q3a (h := pD) (f := pD) hw hc (Nat.le_trans hl (by decide)) λ a ha => by
  obtain ⟨δ', h1, h2, h3⟩ := h a ha
  exact ⟨δ', h1, h2, .strong, h3, rfl⟩
theorem q9s (L : Look d n m f) : ∀ (N : Nat) (l : List En) (k : Nat), l.length <= N -> N <= 900 -> N + 2 <= k -> (∀ p ∈ l, p.1 < n /\ p.2 < m) -> run G T fu k 8 [d, .lst (l.map pD)] = some (.v (.lst ((mA (kp f) l).map pD)) true)
 | N, [], k + 1, _, _, _, _ => by
  rw [q0P (fd := q1c) rfl rfl, q4Y]
  unfold q1c
  exact q1B (q4U (q0f (q1Q (x := .lst []) (y := .lst []) (cx := .strong) (cy := .fresh) (q0a rfl) rfl (z2q []))) (q1b rfl))
 | 0, _ :: _, _, h, _, _, _ => by simp at h
 | N + 1, e :: l, k + 1, h, h9, hk, hr => by
  rw [List.length_cons] at h
  rw [q0P (fd := q1c) rfl rfl]
  unfold q1c
  have rl : ∀ p ∈ l, p.1 < n /\ p.2 < m := λ p hp => hr p (List.mem_cons_of_mem _ hp)
  have re := hr e (List.mem_cons_self ..)
  have hfl : (l.filter (kp f e)).length <= N := Nat.le_trans (List.length_filter_le ..) (by omega)
  have r1 := q9s (k := k) L N (l.filter (kp f e)) hfl (by omega) (by omega) λ p hp => rl p (List.mem_filter.mp hp).1
  have r2 := q9s (k := k) L N l (by omega) (by omega) (by omega) rl
  have t0 : tstD (evE G (run G T fu k) (.cmp .Eq (.var 1) (.lst [])) (q0q 6 [d, .lst ((e :: l).map pD)])) = some (.ok false) := q0f (q1Q (cx := .strong) (cy := .fresh) (x := .lst ((e :: l).map pD)) (y := .lst []) (q0a rfl) rfl (z2q (e :: l)))
  have s1 : evE G (run G T fu k) (.ix (.var 1) (.int 0)) (q0q 6 [d, .lst ((e :: l).map pD)]) = some (.ok (pD e) .strong) := q1f (cx := .strong) (x := .lst ((e :: l).map pD)) (y := .int 0) (q0a rfl) q0e (by
   have h0 : (0 : Int) < (((e :: l).map pD).length : Int) := by simp
   simp only [ixD, atD, q2a, if_pos (Int.le_refl 0), if_pos h0, Option.bind_some]
   rfl)
  have s2 : evE G (run G T fu k) (.slf (.var 1) (.int 1)) [.val d, .val (.lst ((e :: l).map pD)), .val (pD e), .no, .no, .no] = some (.ok (.lst (l.map pD)) .fresh) := z0R (c := .strong) (c1 := .strong) (ds := (e :: l).map pD) (h := 1) (q0a rfl) q0e
  have cm := q6c (F := run G T fu k) (δ := [.val d, .val (.lst ((e :: l).map pD)), .val (pD e), .val (.lst (l.map pD)), .no, .no]) (l := l) (p := kp f e) (it := .var 3) (cd := .call 9 [.var 1, .var 2, .var 0]) (fr := [none, some 0, some 2]) (cl := .strong) rfl (by decide) (by omega)
   λ a ha => ⟨[.val (pD a), .val d, .val (pD e)], rfl, q0f (cl := .strong) (q0h (fr := false) (l := [(d, .strong), (pD e, .strong), (pD a, .strong)]) rfl rfl (by
    obtain ⟨k', rfl⟩ : ∃ k', k = k' + 1 := ⟨k - 1, by omega⟩
    exact z0x (fu := fu) (k := k') L re.1 re.2 (rl a ha).1 (rl a ha).2)), q0a rfl⟩
  have lt : ∀ l : List En, ((mA (kp f) l).map pD).length <= l.length := λ l => by rw [List.length_map]; exact (q4R (kp f) _ l (Nat.le_refl _)).length_le
  have s3 : evE G (run G T fu k) (.bin .Add (.lst [.var 2]) (.call 8 [.var 0, .compi (.var 0) (.one 0) (.var 3) (.call 9 [.var 1, .var 2, .var 0]) [none, some 0, some 2]])) [.val d, .val (.lst ((e :: l).map pD)), .val (pD e), .val (.lst (l.map pD)), .no, .no] = some (.ok (.lst ((e :: mA (kp f) (l.filter (kp f e))).map pD)) .fresh) :=
   q6O (x := [pD e]) (cx := .fresh) (cy := .fresh) rfl (q0h (q0b (q0a rfl) (q0b cm q0g)) rfl r1) (by have := lt (l.filter (kp f e)); simp only [List.length_singleton]; omega)
  have s4 : evE G (run G T fu k) (.call 8 [.var 0, .var 3]) [.val d, .val (.lst ((e :: l).map pD)), .val (pD e), .val (.lst (l.map pD)), .own (.lst ((e :: mA (kp f) (l.filter (kp f e))).map pD)), .no] = some (.ok (.lst ((mA (kp f) l).map pD)) .fresh) := q0h (q0b (q0a rfl) (q0b (q0a rfl) q0g)) rfl r2
  have t1 := b_ge (F := run G T fu k) (δ := [.val d, .val (.lst ((e :: l).map pD)), .val (pD e), .val (.lst (l.map pD)), .own (.lst ((e :: mA (kp f) (l.filter (kp f e))).map pD)), .own (.lst ((mA (kp f) l).map pD))]) (q1m (q3J (n := 4) rfl)) (q1m (q3J (n := 5) rfl))
  rw [List.length_map, List.length_map] at t1
  refine q1B (q0D t0 (q0n (q0j s1 rfl) (q0n (q0j s2 rfl) (q0n (q4Z s3) (q0n (q4Z s4) (q1b ?_))))))
  rw [q3r]
  by_cases hle : (mA (kp f) l).length <= (e :: mA (kp f) (l.filter (kp f e))).length
  ·rw [if_pos hle]
   rw [decide_eq_true (by omega)] at t1
   exact q1d (cl := .top) (z7X (q0f t1) (q3J rfl))
  ·rw [if_neg hle]
   rw [decide_eq_false (by omega)] at t1
   exact q1d (cl := .top) (z6Z (q0f t1) (q3J rfl))
end k34
end
section
namespace k34
open PySem L2
variable {fu k : Nat} {F : Nat -> List DV -> Option Ou} {δ : List Sv} {ds : List DV} {cl : Cl} {n m : Nat} {f : Nat -> Nat -> Int} {d : DV}
section
variable {G : Gs}
theorem z1d {m : MS} {r : List MS} {c : Str} {δ' : List Sv} (h : evS G F fu m δ = some (.ex c δ')) : evSs G F fu (m :: r) δ = some (.ex c δ') := by
 unfold evSs
 rw [h]
theorem z5B {r : List MS} {c : Str} {δ' : List Sv} (h : evSs G F fu r δ = some (.ex c δ')) : Ou.of (evSs G F fu r δ) = some (.x c) := by rw [h]; rfl
theorem z6k {c : ME} {a b r : List MS} {x : Str} {δ' : List Sv} (hc : tstD (evE G F c δ) = some (.ok true)) (h : evSs G F fu a δ = some (.ex x δ')) : evSs G F fu (.iff c a b :: r) δ = some (.ex x δ') := z1d ((z1q hc).trans h)
theorem q7Q {f : Nat} {es : List ME} {l : List (DV × Cl)} {c : Str} (ha : evEs G F es δ = some (.ok l)) (h : F f (l.map (·.1)) = some (.x c)) : evE G F (.call f es) δ = some (.ex c) := by
 show Rs.thn (evEs G F es δ) (λ l => q3v F f l) = _
 rw [ha]
 show q3v F f l = _
 unfold q3v
 rw [h]
theorem q9k {e : ME} {c : Str} (h : evE G F e δ = some (.ex c)) : evS G F fu (.exp e) δ = some (.ex c δ) := by
 show Re.thnS δ (evE G F e δ) (λ _ _ => some (.nx δ)) = _
 rw [h]; rfl
theorem z5U {c : Str} {e : ME} {d : DV} (hc : (G.cls.lookup c).isSome = true) (h : evE G F e δ = some (.ok d cl)) : evS G F fu (.rse c e) δ = some (.ex c δ) := by
 show (if (G.cls.lookup c).isSome = true then Re.thnS δ (evE G F e δ) (λ _ _ => some (.ex c δ)) else none) = _
 rw [if_pos hc, h]
 rfl
theorem z2O {i : Nat} {e : ME} {ds ys : List DV} (h0 : δ[i]? = some (.own (.lst ds))) (h : evE G F e δ = some (.ok (.lst ys) .fresh)) (hl : ds.length + ys.length <= 1000) : evS G F fu (.ext i e) δ = some (.nx (δ.set i (.own (.lst (ds ++ ys))))) := by
 unfold evS
 rw [h0]
 dsimp only
 rw [h]
 show (if Cl.fresh = .strong \/ Cl.fresh = .fresh then (if ds.length + ys.length <= mostLen then some (Out.nx (δ.set i (.own (.lst (ds ++ ys))))) else none) else none) = _
 rw [if_pos (.inr rfl), if_pos (Nat.le_trans hl (by decide))]
end
variable {rows : List (List Int)}
theorem z0K (R : Rect n m rows) (hn : 0 < n) (n8 : n <= 8) (m8 : m <= 8) : run G T fu (k + 5) 6 [tT rows] = (if sm (FI rows).length (FI (flip m rows)).length then some (.v .non false) else some (.x "TooGreat")) := by
 rw [q0P (fd := q1A) rfl rfl]
 unfold q1A
 have c := q3L (q0h (G := G) (F := run G T fu (k + 4)) (δ := q0q 1 [tT rows]) (f := 5) (es := [.var 0]) (l := [(tT rows, .strong)]) rfl rfl (q8O (fu := fu) (k := k) rows n m R hn (by omega) (by omega)))
 cases h : sm (FI rows).length (FI (flip m rows)).length with
 | true =>
  rw [h] at c
  rw [if_pos rfl]
  exact z7R (q0D (q0f c) rfl)
 | false =>
  rw [h] at c
  rw [if_neg Bool.false_ne_true]
  exact z5B (z6k (q0f c) (z1d (z5U (d := .str "the table has more than five kinds of rows or of columns") (cl := .strong) rfl rfl)))
theorem q4h (f : Nat -> Nat -> Int) (w : Int) (J : List Nat) : ∀ I : List Nat, (q2o f w J I).length <= I.length * J.length
 | [] => by simp [q2o]
 | r :: I => by
  have q := q4h f w J I
  show ((((J.filter λ c => f r c == w).map λ c => (r, c)) ++ q2o f w J I)).length <= _
  rw [List.length_append, List.length_map, List.length_cons, Nat.add_mul, Nat.one_mul]
  have := List.length_filter_le (λ c => f r c == w) J
  omega
theorem z5I {w : Int} {r : Nat} {J : List Nat} (L : Look d n m f) (hr : r < n) (hJ : ∀ j ∈ J, j < m) (lJ : J.length <= 8) (own : Sv) : evE G F (.compi (.tup [.var 1, .var 0]) (.one 0) (.var 2) (.cmp .Eq (.ix (.ix (.var 2) (.var 1)) (.var 0)) (.var 3)) [none, some 4, some 0, some 1]) [.val d, .val (.int w), .val (.lst (nD J)), own, .val (.int (r : Int))] = some (.ok (.lst (((J.filter λ c => f r c == w).map λ c => (r, c)).map pD)) .fresh) := by
 rw [List.map_map]
 exact q3a (l := J) (h := λ (j : Nat) => .int (j : Int)) (f := pD ∘ λ c => (r, c)) (p := λ c => f r c == w) (cl := .strong) rfl (by decide) (Nat.le_trans lJ (by decide)) λ j hj =>
  ⟨[.val (.int (j : Int)), .val (.int (r : Int)), .val d, .val (.int w)], rfl, q0f (b_eq (q5p L (q0a rfl) (q0a rfl) (q0a rfl) hr (hJ j hj)) (q0a rfl)), .strong, rfl, rfl⟩
theorem z6u {w : Int} {J : List Nat} (L : Look d n m f) (hJ : ∀ j ∈ J, j < m) (lJ : J.length <= 8) : ∀ (I : List Nat) (acc : List En) (z : Sv), (∀ i ∈ I, i < n) -> acc.length + I.length * J.length <= 900 -> ∃ z', q1R (.one 4) (λ δ' => evSs G F fu [.ext 3 (.compi (.tup [.var 1, .var 0]) (.one 0) (.var 2) (.cmp .Eq (.ix (.ix (.var 2) (.var 1)) (.var 0)) (.var 3)) [none, some 4, some 0, some 1])] δ') (nD I) [.val d, .val (.int w), .val (.lst (nD J)), .own (.lst (acc.map pD)), z] = some (.nx [.val d, .val (.int w), .val (.lst (nD J)), .own (.lst ((acc ++ q2o f w J I).map pD)), z'])
 | [], acc, z, _, _ => ⟨z, by rw [show q2o f w J [] = [] from rfl, List.append_nil]; rfl⟩
 | r :: I, acc, z, hI, hl => by
  rw [List.length_cons, Nat.add_mul, Nat.one_mul] at hl
  have cl := List.length_filter_le (λ c => f r c == w) J
  obtain ⟨z', h⟩ := z6u L hJ lJ I (acc ++ (J.filter λ c => f r c == w).map λ c => (r, c)) (.val (.int (r : Int))) (λ i hi => hI i (List.mem_cons_of_mem _ hi)) (by rw [List.length_append, List.length_map]; omega)
  refine ⟨z', ?_⟩
  show q1R (.one 4) _ (.int (r : Int) :: nD I) _ = _
  have e := z2O (fu := fu) (i := 3) (δ := [.val d, .val (.int w), .val (.lst (nD J)), .own (.lst (acc.map pD)), .val (.int (r : Int))]) rfl (z5I (F := F) (w := w) (r := r) (J := J) L (hI r (List.mem_cons_self ..)) hJ lJ (.own (.lst (acc.map pD)))) (by rw [List.length_map, List.length_map, List.length_map]; omega)
  rw [z1p (δ1 := [.val d, .val (.int w), .val (.lst (nD J)), .own (.lst (acc.map pD)), .val (.int (r : Int))]) rfl (q0n e rfl), <- List.map_append]
  rw [show q2o f w J (r :: I) = ((J.filter λ c => f r c == w).map λ c => (r, c)) ++ q2o f w J I from rfl, <- List.append_assoc]
  exact h
theorem q7t (rows : List (List Int)) : (FI rows).Pairwise (· < ·) := by
 unfold FI
 exact (List.pairwise_lt_range).sublist List.filter_sublist
noncomputable def tell (rows : List (List Int)) (m : Nat) (w : Int) : List En := mA (kp (at2 rows)) (q2o (at2 rows) w (FI (flip m rows)) (FI rows))
theorem z4d (R : Rect n m rows) (hn : 0 < n) (n8 : n <= 8) (m8 : m <= 8) (hs : sm (FI rows).length (FI (flip m rows)).length = true) (w : Int) : run G T fu (k + 40) 7 [tT rows, .int w] = some (.v (.lst ((tell rows m w).map pD)) true) := by
 have R' := q2A R
 have hI : ∀ i ∈ FI rows, i < n := λ i hi => by have := q4L hi; rw [R.1] at this; exact this
 have hJ : ∀ j ∈ FI (flip m rows), j < m := λ j hj => by have := q4L hj; rw [R'.1] at this; exact this
 have s5 : (FI rows).length <= 5 /\ (FI (flip m rows)).length <= 5 := by
  unfold sm at hs
  rw [Bool.and_eq_true, decide_eq_true_iff, decide_eq_true_iff] at hs
  omega
 have s25 : (FI rows).length * (FI (flip m rows)).length <= 25 := Nat.mul_le_mul s5.1 s5.2
 have L := q5U R
 have c1 := z0K (fu := fu) (k := k + 34) R hn n8 m8
 rw [hs, if_pos rfl] at c1
 have e1 : evE G (run G T fu (k + 39)) (.bi .sset [.call 3 [.var 0]]) (q0q 5 [tT rows, .int w]) = some (.ok (.lst (nD (FI (flip m rows)))) .fresh) := by
  have q := q5K (F := run G T fu (k + 39)) (δ := q0q 5 [tT rows, .int w]) (e := .call 3 [.var 0]) (r := kI (flip m rows)) (q0h (l := [(tT rows, .strong)]) rfl rfl (q2M (k := k + 37) rows n m R hn (by omega) (by omega))) (by rw [q8e, R'.1]; omega)
  rw [q3F, z2U] at q
  exact q
 have e2 : evE G (run G T fu (k + 39)) (.bi .sset [.call 2 [.var 0]]) [.val (tT rows), .val (.int w), .val (.lst (nD (FI (flip m rows)))), .own (.lst []), .no] = some (.ok (.lst (nD (FI rows))) .fresh) := by
  have q := q5K (F := run G T fu (k + 39)) (δ := [.val (tT rows), .val (.int w), .val (.lst (nD (FI (flip m rows)))), .own (.lst []), .no]) (e := .call 2 [.var 0]) (r := kI rows) (q0h (l := [(tT rows, .strong)]) rfl rfl (q2S (k := k + 38) rows (by rw [R.1]; omega))) (by rw [q8e, R.1]; omega)
  rw [q3F, z2U] at q
  exact q
 have e2w : q0L (evE G (run G T fu (k + 39)) (.bi .sset [.call 2 [.var 0]]) [.val (tT rows), .val (.int w), .val (.lst (nD (FI (flip m rows)))), .own (.lst []), .no]) = some (.ok (nD (FI rows)) .fresh) := by rw [e2]; rfl
 obtain ⟨z', lp⟩ := z6u (F := run G T fu (k + 39)) (fu := fu) (w := w) (J := FI (flip m rows)) L hJ (by omega) (FI rows) [] .no hI (by rw [List.length_nil]; omega)
 rw [List.nil_append] at lp
 have el := q4h (at2 rows) w (FI (flip m rows)) (FI rows)
 have mm := q9s (fu := fu) L 25 (q2o (at2 rows) w (FI (flip m rows)) (FI rows)) (k + 39) (by omega) (by omega) (by omega) λ p hp => ⟨hI _ (q5k hp).1, hJ _ (q5k hp).2.1⟩
 rw [q0P (fd := q3u) rfl rfl]
 unfold q3u
 refine q1B (q0n (z5E (q0h (l := [(tT rows, .strong)]) rfl rfl c1)) (q0n (q0j e1 rfl) (q0n (q4Z rfl) (q4k (cl := .fresh) e2w (.inr rfl) lp (q0n (δ' := [.val (tT rows), .val (.int w), .val (.lst (nD (FI (flip m rows)))), .val (.lst ((q2o (at2 rows) w (FI (flip m rows)) (FI rows)).map pD)), z']) rfl (q1b (q1d (cl := .fresh) ?_)))))))
 exact q0h (fr := true) (q0b (q0a rfl) (q0b (q0a rfl) q0g)) rfl mm
theorem q7e (R : Rect n m rows) (hn : 0 < n) (n8 : n <= 8) (m8 : m <= 8) (hs : sm (FI rows).length (FI (flip m rows)).length = false) (w : Int) : run G T fu (k + 6) 7 [tT rows, .int w] = some (.x "TooGreat") := by
 have c1 := z0K (fu := fu) (k := k) R hn n8 m8
 rw [hs, if_neg Bool.false_ne_true] at c1
 rw [q0P (fd := q3u) rfl rfl]
 unfold q3u
 exact z5B (z1d (q9k (q7Q (l := [(tT rows, .strong)]) rfl c1)))
theorem q9r {t w : DV} (h : run G T fu k 7 [t, w] = some (.x "TooGreat")) : run G T fu (k + 1) 17 [t, w] = some (.v (.bl true) false) := by
 rw [q0P (fd := q1q) rfl rfl]
 unfold q1q
 have b1 : evSs G (run G T fu k) fu [.exp (.call 7 [.var 0, .var 1])] [.val t, .val w, .val .non, .no] = some (.ex "TooGreat" [.val t, .val w, .val .non, .no]) :=
  z1d (q9k (q7Q (q0b (q0a rfl) (q0b (q0a rfl) q0g)) h))
 have b2 : evS G (run G T fu k) fu (.tryc [.exp (.call 7 [.var 0, .var 1])] "TalkError" 3 2) [.val t, .val w, .val .non, .no] = some (.nx [.val t, .val w, .val (.exc "TooGreat"), .no]) := by
  show tryD G "TalkError" 3 2 (evSs G (run G T fu k) fu [.exp (.call 7 [.var 0, .var 1])] [.val t, .val w, .val .non, .no]) = _
  rw [b1]
  rfl
 exact q1B (q0n (q0j (d := .non) (cl := .strong) rfl rfl) (q0n b2 (q0D (q0f (x := false) (cl := .strong) rfl) (q1b rfl))))
end k34
end
section
namespace k34
open PySem L2
variable {fu k : Nat} {F : Nat -> List DV -> Option Ou} {δ : List Sv} {ds : List DV} {cl : Cl} {n m : Nat} {f : Nat -> Nat -> Int} {d : DV} {rows : List (List Int)}
theorem z0w (i : Nat) (rows : List (List Int)) (n m : Nat) (R : Rect n m rows) (hn : 0 < n) (hn2 : n <= 8) (hm2 : m <= 8) (h2 : δ[i]? = some (.val (rL rows))) : evE G F (.comp (.comp (.ix (.var 0) (.var 1)) (.one 0) (.var 1) [none, some 0]) (.one 0) (.rng [.bi .len [.ix (.var i) (.int 0)]]) [none, some i]) δ = some (.ok (rL (flip m rows)) .fresh) := by
 have r0 : 0 < rows.length := by rw [R.1]; exact hn
 have h2' : δ.getD i .no = .val (rL rows) := by rw [List.getD_eq_getElem?_getD, h2]; rfl
 have w : q0L (evE G F (.rng [.bi .len [.ix (.var i) (.int 0)]]) δ) = some (.ok ((List.range m).map λ (j : Nat) => DV.int (j : Int)) .fresh) := by
  have t := q1m (q1f (q0a h2) (q0e (G := G) (F := F) (i := 0)) (show ixD (rL rows) (.int 0) = some (.lst (iD (rows.getD 0 []))) from q3t r0))
  rw [show (iD (rows.getD 0 [])).length = m by unfold iD; rw [List.length_map]; exact R.2 _ (q0U r0)] at t
  rw [q5N t (by omega), z2u]
  rfl
 have e := q0Y (l := List.range m) (h := λ (j : Nat) => DV.int (j : Int)) (f := λ j => .lst (iD (col rows j))) (elt := .comp (.ix (.var 0) (.var 1)) (.one 0) (.var 1) [none, some 0]) (tg := .one 0) (fr := [none, some i]) w (by decide) (by rw [List.length_range]; exact Nat.le_trans hm2 (by decide)) λ j hj => by
  refine ⟨[.val (.int j), .val (rL rows)], .fresh, ?_, z4X rows m j R.2 (List.mem_range.mp hj) (by rw [R.1]; omega), rfl⟩
  show some ((q0s [none, some i] δ).set 0 (.val (.int j))) = _
  unfold q0s
  simp only [List.map_cons, List.map_nil, h2']
  rfl
 rw [e]
 unfold rL flip
 rw [List.map_map]
 rfl
theorem z0k {a : List Int} : ∀ {l : List (List Int)} {j : Nat}, l[j]? = some a -> l.idxOf a <= j
 | [], j, h => by simp at h
 | x :: l, 0, h => by
  have : x = a := by simpa using h
  subst this
  rw [List.idxOf_cons_self]
  exact Nat.le_refl _
 | x :: l, j + 1, h => by
  rw [List.getElem?_cons_succ] at h
  have q := z0k h
  rw [List.idxOf_cons]
  cases x == a with
  | true => exact Nat.zero_le _
  | false => show l.idxOf a + 1 <= j + 1; omega
theorem q3Z {rows : List (List Int)} {r : Nat} (h : r < rows.length) : (!((rows.take r).any λ x => x == rows.getD r [])) = (rows.idxOf (rows.getD r []) == r) := by
 have hg : rows.getD r [] = rows[r] := by rw [List.getD_eq_getElem?_getD, List.getElem?_eq_getElem h]; rfl
 rw [hg]
 have hle : rows.idxOf rows[r] <= r := z0k (List.getElem?_eq_getElem h)
 rw [Bool.eq_iff_iff, Bool.not_eq_true', beq_iff_eq]
 constructor
 ·intro q
  rcases Nat.lt_or_ge (rows.idxOf rows[r]) r with z | z
  ·exfalso
   have hl : rows.idxOf rows[r] < rows.length := by omega
   have : ((rows.take r).any λ x => x == rows[r]) = true := by
    rw [List.any_eq_true]
    refine ⟨rows[rows.idxOf rows[r]], ?_, ?_⟩
    ·rw [List.mem_iff_getElem?]
     exact ⟨rows.idxOf rows[r], by rw [List.getElem?_take_of_lt z, List.getElem?_eq_getElem hl]⟩
    ·rw [List.getElem_idxOf hl]; exact beq_self_eq_true _
   rw [this] at q; cases q
  ·omega
 ·intro q
  rw [List.any_eq_false]
  intro x hx hxe
  have hxe' : x = rows[r] := eq_of_beq hxe
  obtain ⟨j, hj⟩ := List.mem_iff_getElem?.mp hx
  have hjr : j < r := by
   have := (List.getElem?_eq_some_iff.mp hj).1
   rw [List.length_take] at this; omega
  rw [List.getElem?_take_of_lt hjr, List.getElem?_eq_getElem (by omega)] at hj
  have hj' : rows[j] = x := by simpa using hj
  have : rows.idxOf rows[r] <= j := z0k (by rw [List.getElem?_eq_getElem (by omega), hj', hxe'])
  omega
theorem z4I {rows : List (List Int)} {r : Nat} (a : List Int) : cmpD .NotIn (.tup (iD a)) (.tup ((rows.take r).map λ r => .tup (iD r))) = some (!((rows.take r).any λ x => x == a)) := by
 show (if (DV.plain 60 (.tup (iD a)) && DV.plains 60 ((rows.take r).map λ r => DV.tup (iD r))) = true then some (!(((rows.take r).map λ r => DV.tup (iD r)).any λ d => deq d (.tup (iD a)))) else none) = _
 rw [q6U 59 a, q7C 59, List.any_map]
 show some _ = _
 congr 3
 funext x
 exact z5T x a
theorem z3S {rows : List (List Int)} {r : Nat} (a : List Int) : cmpD .NotIn (.lst (iD a)) (.lst ((rows.take r).map λ r => .lst (iD r))) = some (!((rows.take r).any λ x => x == a)) := by
 show (if (DV.plain 60 (.lst (iD a)) && DV.plains 60 ((rows.take r).map λ r => DV.lst (iD r))) = true then some (!(((rows.take r).map λ r => DV.lst (iD r)).any λ d => deq d (.lst (iD a)))) else none) = _
 rw [q9v 59 a, z1T 59, List.any_map]
 show some _ = _
 congr 3
 funext x
 exact z7t x a
theorem z4a {a b : ME} {rows : List (List Int)} {h : Nat} {c1 : Cl} (hl : h < rows.length) (ha : evE G F a δ = some (.ok (tT rows) .strong)) (hh : evE G F b δ = some (.ok (.int (h : Int)) c1)) : evE G F (.slt a b) δ = some (.ok (.tup ((rows.take h).map λ r => .tup (iD r))) .strong) := by
 unfold evE
 rw [ha, q0X, hh, q0X]
 show ((if slIx (rows.map λ r => DV.tup (iD r)).length 0 none = 0 /\ slIx (rows.map λ r => DV.tup (iD r)).length (rows.map λ r => DV.tup (iD r)).length (some (h : Int)) = (rows.map λ r => DV.tup (iD r)).length then none else some (.tup (cutD (rows.map λ r => DV.tup (iD r)) none (some (h : Int))))).map λ d => Re.ok d (slCl (tT rows) .strong)) = _
 rw [if_neg, z2A, <- List.map_take]
 ·rfl
 ·rintro ⟨_, q⟩
  unfold slIx at q
  dsimp only at q
  rw [if_neg (by omega), Int.toNat_natCast, List.length_map] at q
  omega
theorem q5B {e : ME} {c : Cl} {n : Nat} (h : evE G F e δ = some (.ok (.int (n : Int)) c)) (hn : n <= 1000) : q0L (evE G F (.rng [e]) δ) = some (.ok ((List.range n).map λ (j : Nat) => DV.int (j : Int)) .fresh) := by
 rw [q5N h hn, z2u]
 rfl
theorem z6w {e : ME} {r : List Int} {c : Cl} (h : evE G F e δ = some (.ok (.tup (iD r)) .strong)) : evE G F (.bi .list [e]) δ = some (.ok (.lst (iD r)) .fresh) := by
 show Rs.thn (evEs G F [e] δ) (λ l => q8o l) = _
 rw [q0b h q0g]
 rfl
noncomputable def q0C (rows : List (List Int)) : List (List Int) := (FI rows).map λ r => rows.getD r []
theorem q6T (R : Rect n m rows) : Rect (FI rows).length m (q0C rows) := by
 unfold q0C
 refine ⟨List.length_map .., λ r hr => ?_⟩
 obtain ⟨i, hi, rfl⟩ := List.mem_map.mp hr
 exact R.2 _ (q0U (q4L hi))
theorem q8f {j : Nat} (h : j < m) : (flip m rows).getD j [] = col rows j := by
 unfold flip
 rw [List.getD_eq_getElem?_getD, List.getElem?_map, List.getElem?_range h]
 rfl
theorem q1p : (flip m rows).length = m := by unfold flip; rw [List.length_map, List.length_range]
theorem z5K (R : Rect n m rows) (i j : Nat) : (col (q0C rows) i == col (q0C rows) j) = (col rows i == col rows j) := by
 rw [Bool.eq_iff_iff, beq_iff_eq, beq_iff_eq]
 unfold col q0C
 rw [List.map_map, List.map_map]
 constructor
 ·intro h
  apply List.map_congr_left
  intro r hr
  have key := List.map_inj_left.mp h (rows.idxOf r) (by
   unfold FI
   refine List.mem_filter.mpr ⟨List.mem_range.mpr (q9q hr), ?_⟩
   rw [q7a hr, beq_iff_eq])
  have key' : (rows.getD (rows.idxOf r) []).getD i 0 = (rows.getD (rows.idxOf r) []).getD j 0 := key
  rw [q7a hr] at key'
  exact key'
 ·intro h
  apply List.map_congr_left
  intro i' hi'
  exact List.map_inj_left.mp h _ (q0U (q4L hi'))
theorem z0p (R : Rect n m rows) : FI (flip m (q0C rows)) = FI (flip m rows) := by
 unfold FI
 rw [q1p, q1p]
 apply List.filter_congr
 intro c hc
 have hc' := List.mem_range.mp hc
 rw [<- q3Z (by rw [q1p]; exact hc'), <- q3Z (by rw [q1p]; exact hc'), q8f hc', q8f hc']
 congr 1
 unfold flip
 rw [<- List.map_take, <- List.map_take, List.any_map, List.any_map]
 congr 1
 funext x
 exact z5K R x c
theorem q8v (R : Rect n m rows) (hn : 0 < n) (n8 : n <= 8) (m8 : m <= 8) : run G T fu (k + 1) 15 [tT rows] = some (.v (rL (sub rows (FI rows) (FI (flip m rows)))) true) := by
 have rl : rows.length = n := R.1
 have Rf := q6T R
 have c0 : 0 < (FI rows).length := z2C (by rw [rl]; exact hn)
 have cl8 : (FI rows).length <= 8 := Nat.le_trans (q7L rows) (by rw [rl]; exact n8)
 have w0 : q0L (evE G (run G T fu k) (.rng [.bi .len [.var 0]]) (q0q 4 [tT rows])) = some (.ok ((List.range n).map λ (j : Nat) => DV.int (j : Int)) .fresh) := by
  have t := q2p (F := run G T fu k) (δ := q0q 4 [tT rows]) (e := .var 0) (ds := rows.map λ r => .tup (iD r)) (c := .strong) rfl
  rw [List.length_map, rl] at t
  exact q5B t (by omega)
 have s1 := q3a (F := run G T fu k) (δ := q0q 4 [tT rows]) (l := List.range n) (h := λ (j : Nat) => DV.int (j : Int)) (f := λ j => .lst (iD (rows.getD j []))) (p := λ r => rows.idxOf (rows.getD r []) == r) (elt := .bi .list [.ix (.var 1) (.var 0)]) (cd := .cmp .NotIn (.ix (.var 1) (.var 0)) (.slt (.var 1) (.var 0))) (tg := .one 0) (fr := [none, some 0]) w0 (by decide) (by rw [List.length_range]; exact Nat.le_trans n8 (by decide)) λ j hj => by
   have hj' : j < rows.length := by rw [rl]; exact List.mem_range.mp hj
   have ei : evE G (run G T fu k) (.ix (.var 1) (.var 0)) [.val (.int (j : Int)), .val (tT rows)] = some (.ok (.tup (iD (rows.getD j []))) .strong) := q1f (cx := .strong) (q0a rfl) (q0a rfl) (q3R hj')
   refine ⟨[.val (.int (j : Int)), .val (tT rows)], rfl, q0f (cl := .strong) ?_, .fresh, z6w (c := .strong) ei, rfl⟩
   rw [<- q3Z hj']
   exact q1Q ei (z4a hj' (q0a rfl) (q0a rfl)) (z4I _)
 have s1' : evE G (run G T fu k) (.compi (.bi .list [.ix (.var 1) (.var 0)]) (.one 0) (.rng [.bi .len [.var 0]]) (.cmp .NotIn (.ix (.var 1) (.var 0)) (.slt (.var 1) (.var 0))) [none, some 0]) (q0q 4 [tT rows]) = some (.ok (rL (q0C rows)) .fresh) := by
  rw [s1]
  unfold rL q0C FI
  rw [List.map_map, rl]
  rfl
 have s2 := z0w (F := run G T fu k) (δ := [.val (tT rows), .val (rL (q0C rows)), .no, .no]) 1 (q0C rows) _ m Rf c0 cl8 m8 rfl
 have w2 : q0L (evE G (run G T fu k) (.rng [.bi .len [.var 2]]) [.val (tT rows), .val (rL (q0C rows)), .val (rL (flip m (q0C rows))), .no]) = some (.ok ((List.range m).map λ (j : Nat) => DV.int (j : Int)) .fresh) := by
  have t := q1m (F := run G T fu k) (δ := [.val (tT rows), .val (rL (q0C rows)), .val (rL (flip m (q0C rows))), .no]) (e := .var 2) (ds := (flip m (q0C rows)).map λ r => .lst (iD r)) (c := .strong) rfl
  rw [List.length_map, q1p] at t
  exact q5B t (by omega)
 have s3 := q3a (F := run G T fu k) (δ := [.val (tT rows), .val (rL (q0C rows)), .val (rL (flip m (q0C rows))), .no]) (l := List.range m) (h := λ (j : Nat) => DV.int (j : Int)) (f := λ (j : Nat) => DV.int (j : Int)) (p := λ r => (flip m (q0C rows)).idxOf ((flip m (q0C rows)).getD r []) == r) (elt := .var 0) (cd := .cmp .NotIn (.ix (.var 1) (.var 0)) (.slt (.var 1) (.var 0))) (tg := .one 0) (fr := [none, some 2]) w2 (by decide) (by rw [List.length_range]; exact Nat.le_trans m8 (by decide)) λ j hj => by
   have hj' : j < (flip m (q0C rows)).length := by rw [q1p]; exact List.mem_range.mp hj
   have ei : evE G (run G T fu k) (.ix (.var 1) (.var 0)) [.val (.int (j : Int)), .val (rL (flip m (q0C rows)))] = some (.ok (.lst (iD ((flip m (q0C rows)).getD j []))) .strong) := q1f (cx := .strong) (q0a rfl) (q0a rfl) (q3t hj')
   refine ⟨[.val (.int (j : Int)), .val (rL (flip m (q0C rows)))], rfl, q0f (cl := .strong) ?_, .strong, q0a rfl, rfl⟩
   rw [<- q3Z hj']
   have st := q9O (F := run G T fu k) (δ := [.val (.int (j : Int)), .val (rL (flip m (q0C rows)))]) (a := .var 1) (b := .var 0) (c := .strong) (c1 := .strong) (ds := (flip m (q0C rows)).map λ r => .lst (iD r)) (h := j) (q0a rfl) (q0a rfl)
   rw [<- List.map_take] at st
   exact q1Q ei st (z3S _)
 have s3' : evE G (run G T fu k) (.compi (.var 0) (.one 0) (.rng [.bi .len [.var 2]]) (.cmp .NotIn (.ix (.var 1) (.var 0)) (.slt (.var 1) (.var 0))) [none, some 2]) [.val (tT rows), .val (rL (q0C rows)), .val (rL (flip m (q0C rows))), .no] = some (.ok (.lst (nD (FI (flip m rows)))) .fresh) := by
  rw [s3, <- z0p R]
  unfold nD FI
  rw [q1p]
 have hJ : ∀ j ∈ FI (flip m rows), j < m := λ j hj => by have := q4L hj; rw [q1p] at this; exact this
 have lJ : (FI (flip m rows)).length <= 8 := by have := q7L (flip m rows); rw [q1p] at this; omega
 have s4 := q0Y (F := run G T fu k) (δ := [.val (tT rows), .val (rL (q0C rows)), .val (rL (flip m (q0C rows))), .val (.lst (nD (FI (flip m rows))))]) (l := q0C rows) (h := λ r => .lst (iD r)) (f := λ r => .lst (iD ((FI (flip m rows)).map λ j => r.getD j 0))) (elt := .comp (.ix (.var 1) (.var 0)) (.one 0) (.var 1) [none, some 0]) (tg := .one 0) (it := .var 1) (fr := [none, some 3]) (cl := .strong) rfl (by decide) (by rw [Rf.1]; exact Nat.le_trans cl8 (by decide)) λ r hr => by
   refine ⟨[.val (.lst (iD r)), .val (.lst (nD (FI (flip m rows))))], .fresh, rfl, ?_, rfl⟩
   have q := q0Y (F := run G T fu k) (δ := [.val (.lst (iD r)), .val (.lst (nD (FI (flip m rows))))]) (l := FI (flip m rows)) (h := λ (j : Nat) => DV.int (j : Int)) (f := λ j => .int (r.getD j 0)) (elt := .ix (.var 1) (.var 0)) (tg := .one 0) (it := .var 1) (fr := [none, some 0]) (cl := .strong) rfl (by decide) (Nat.le_trans lJ (by decide)) λ j hj =>
    ⟨[.val (.int (j : Int)), .val (.lst (iD r))], .strong, rfl, q1f (cx := .strong) (q0a rfl) (q0a rfl) (q5H (by rw [Rf.2 r hr]; exact hJ j hj)), rfl⟩
   rw [q]
   unfold iD
   rw [List.map_map]
   rfl
 rw [q0P (fd := q1u) rfl rfl]
 unfold q1u
 have s4' : evE G (run G T fu k) (.comp (.comp (.ix (.var 1) (.var 0)) (.one 0) (.var 1) [none, some 0]) (.one 0) (.var 1) [none, some 3]) [.val (tT rows), .val (rL (q0C rows)), .val (rL (flip m (q0C rows))), .val (.lst (nD (FI (flip m rows))))] = some (.ok (rL (sub rows (FI rows) (FI (flip m rows)))) .fresh) := by
  rw [s4]
  unfold rL sub q0C
  rw [List.map_map, List.map_map]
  rfl
 exact q1B (q0n (q0j s1' rfl) (q0n (q0j s2 rfl) (q0n (q0j s3' rfl) (q1b (q1d s4')))))
end k34
end
section
namespace k34
open PySem L2
variable {fu k : Nat} {F : Nat -> List DV -> Option Ou} {δ : List Sv} {ds : List DV} {cl : Cl} {n m : Nat} {f : Nat -> Nat -> Int} {d : DV} {rows : List (List Int)}
theorem z4p {a b : ME} {i j : Nat} {cx cy : Cl} (ha : evE G F a δ = some (.ok (.int (i : Int)) cx)) (hb : evE G F b δ = some (.ok (.int (j : Int)) cy)) : evE G F (.bi .max [a, b]) δ = some (.ok (.int ((max i j : Nat) : Int)) .strong) := by
 show Rs.thn (evEs G F [a, b] δ) (λ l => maxD l) = _
 rw [q0b ha (q0b hb q0g)]
 show some (Re.ok (.int (if (j : Int) > (i : Int) then (j : Int) else (i : Int))) .strong) = _
 congr 3
 rw [Nat.max_def]
 split <;> split <;> omega
theorem z1Z {a b : ME} {i j : Nat} {cx cy : Cl} (ha : evE G F a δ = some (.ok (.int (i : Int)) cx)) (hb : evE G F b δ = some (.ok (.int (j : Int)) cy)) : evE G F (.cmp .Eq a b) δ = some (.ok (.bl (i == j)) .strong) := by
 have q := b_eq ha hb
 rw [show ((i : Int) == (j : Int)) = (i == j) by rw [Bool.eq_iff_iff, beq_iff_eq, beq_iff_eq]; omega] at q
 exact q
theorem add1 {e : ME} {i : Nat} {c : Cl} (h : evE G F e δ = some (.ok (.int (i : Int)) c)) : evE G F (.bin .Add e (.int 1)) δ = some (.ok (.int ((i + 1 : Nat) : Int)) .strong) := by
 rw [show (((i + 1 : Nat)) : Int) = (i : Int) + 1 by push_cast; rfl]
 exact q4G h q0e
theorem z3K {S : List (List Int)} {w : Int} {r c : Nat} {ch : List En} {a : Sv} (L : Look (rL S) n m f) (hr : r < n) (hc : c < m) (hch : ∀ p ∈ ch, p.1 < n /\ p.2 < m) (hl : ch.length <= 900) : evE G (run G T fu (k + 1)) (.cmp .Eq (.bi .len [.compi (.var 0) (.one 0) (.var 2) (.not (.call 18 [.var 1, .var 0, .tup [.var 2, .var 3]])) [none, some 0, some 3, some 5]]) (.int 0)) [.val (rL S), .val (.int w), .val (.lst (ch.map pD)), .val (.int (r : Int)), a, .val (.int (c : Int))] = some (.ok (.bl (ch.all λ x => kp f x (r, c))) .strong) := by
 have cm := q6c (F := run G T fu (k + 1)) (δ := [.val (rL S), .val (.int w), .val (.lst (ch.map pD)), .val (.int (r : Int)), a, .val (.int (c : Int))]) (l := ch) (p := λ x => !kp f x (r, c)) (it := .var 2) (cd := .not (.call 18 [.var 1, .var 0, .tup [.var 2, .var 3]])) (fr := [none, some 0, some 3, some 5]) (cl := .strong) rfl (by decide) (by omega)
  λ x hx => ⟨[.val (pD x), .val (rL S), .val (.int (r : Int)), .val (.int (c : Int))], rfl, q0f (cl := .strong) (q3L (q0h (fr := false) (l := [(rL S, .strong), (pD x, .strong), (pD (r, c), .strong)]) rfl rfl (q5u (fu := fu) (k := k) L (hch x hx).1 (hch x hx).2 hr hc))), q0a rfl⟩
 have q := z1Z (q1m cm) (q0e (i := ((0 : Nat) : Int)))
 rw [List.length_map] at q
 rw [show (ch.all λ x => kp f x (r, c)) = ((ch.filter λ x => !kp f x (r, c)).length == 0) by
  rw [Bool.eq_iff_iff, List.all_eq_true, beq_iff_eq, List.length_eq_zero_iff, List.filter_eq_nil_iff]
  refine forall_congr' λ x => forall_congr' λ hx => ?_
  cases kp f x (r, c) <;> simp]
 exact q
theorem q7o {S : List (List Int)} (R : Rect n m S) (L : Look (rL S) n m f) (n8 : n <= 8) (m8 : m <= 8) (w : Int) : ∀ (rem r : Nat) (ch : List En) (k : Nat), r + rem = n -> rem + 2 <= k -> ch.length + rem <= 900 -> (∀ p ∈ ch, p.1 < n /\ p.2 < m) -> run G T fu k 19 [rL S, .int w, .lst (ch.map pD), .int (r : Int)] = some (.v (.int ((gM f w m rem r ch : Nat) : Int)) false)
 | 0, r, ch, k + 1, h, _, _, _ => by
  rw [q0P (fd := q1n) rfl rfl]
  unfold q1n gM
  have l0 := q1m (F := run G T fu k) (δ := q0q 6 [rL S, .int w, .lst (ch.map pD), .int (r : Int)]) (e := .var 0) (ds := S.map λ r => .lst (iD r)) (c := .strong) rfl
  have l2 := q1m (F := run G T fu k) (δ := q0q 6 [rL S, .int w, .lst (ch.map pD), .int (r : Int)]) (e := .var 2) (ds := ch.map pD) (c := .strong) rfl
  rw [List.length_map] at l0 l2
  have t := z1Z (F := run G T fu k) (δ := q0q 6 [rL S, .int w, .lst (ch.map pD), .int (r : Int)]) (a := .var 3) (i := r) (cx := .strong) (q0a rfl) l0
  rw [R.1, show (r == n) = true by rw [beq_iff_eq]; omega] at t
  exact q1B (q4U (q0f t) (q1b (q1d l2)))
 | rem + 1, r, ch, k + 2, h, hk, hl, hch => by
  have hr : r < n := by omega
  rw [q0P (fd := q1n) rfl rfl]
  unfold q1n
  have l0 := q1m (F := run G T fu (k + 1)) (δ := q0q 6 [rL S, .int w, .lst (ch.map pD), .int (r : Int)]) (e := .var 0) (ds := S.map λ r => .lst (iD r)) (c := .strong) rfl
  rw [List.length_map] at l0
  have t := z1Z (F := run G T fu (k + 1)) (δ := q0q 6 [rL S, .int w, .lst (ch.map pD), .int (r : Int)]) (a := .var 3) (i := r) (cx := .strong) (q0a rfl) l0
  rw [R.1, show (r == n) = false by rw [beq_eq_false_iff_ne]; omega] at t
  have r1 := q7o R L n8 m8 w rem (r + 1) ch (k + 1) (by omega) (by omega) (by omega) hch
  let b0 := gM f w m rem (r + 1) ch
  let st := λ acc c => if f r c == w && ch.all (λ x => kp f x (r, c)) then max acc (gM f w m rem (r + 1) (ch ++ [(r, c)])) else acc
  have s4 : evE G (run G T fu (k + 1)) (.call 19 [.var 0, .var 1, .var 2, .bin .Add (.var 3) (.int 1)]) (q0q 6 [rL S, .int w, .lst (ch.map pD), .int (r : Int)]) = some (.ok (.int (b0 : Int)) .strong) :=
   q0h (fr := false) (q0b (q0a rfl) (q0b (q0a rfl) (q0b (q0a rfl) (q0b (add1 (q0a rfl)) q0g)))) rfl r1
  have w5 : q0L (evE G (run G T fu (k + 1)) (.rng [.bi .len [.ix (.var 0) (.int 0)]]) [.val (rL S), .val (.int w), .val (.lst (ch.map pD)), .val (.int (r : Int)), .val (.int (b0 : Int)), .no]) = some (.ok (upTo 0 m) .fresh) := by
   have r0 : 0 < S.length := by rw [R.1]; omega
   have t := q1m (F := run G T fu (k + 1)) (δ := [.val (rL S), .val (.int w), .val (.lst (ch.map pD)), .val (.int (r : Int)), .val (.int (b0 : Int)), .no]) (q1f (a := .var 0) (b := .int 0) (cx := .strong) (q0a rfl) (q0e (i := ((0 : Nat) : Int))) (q3t (rows := S) r0))
   rw [show (iD (S.getD 0 [])).length = m by unfold iD; rw [List.length_map]; exact R.2 _ (q0U r0)] at t
   exact q5N t (by omega)
  obtain ⟨δ', lp, z, rfl⟩ := q1M (i := 5) (I := λ j δ => ∃ z : Sv, δ = [.val (rL S), .val (.int w), .val (.lst (ch.map pD)), .val (.int (r : Int)), .val (.int (((List.range j).foldl st b0 : Nat) : Int)), z])
   (body := λ δ' => evSs G (run G T fu (k + 1)) fu [.iff (.cmp .Eq (.ix (.ix (.var 0) (.var 3)) (.var 5)) (.var 1)) [.iff (.cmp .Eq (.bi .len [.compi (.var 0) (.one 0) (.var 2) (.not (.call 18 [.var 1, .var 0, .tup [.var 2, .var 3]])) [none, some 0, some 3, some 5]]) (.int 0)) [.set 4 false (.bi .max [.var 4, .call 19 [.var 0, .var 1, .bin .Add (.var 2) (.lst [.tup [.var 3, .var 5]]), .bin .Add (.var 3) (.int 1)]])] []] []] δ') m 0
   (δ := [.val (rL S), .val (.int w), .val (.lst (ch.map pD)), .val (.int (r : Int)), .val (.int (b0 : Int)), .no])
   (λ j hj δ I => by
    obtain ⟨z, rfl⟩ := I
    rw [show (0 : Int) + (j : Int) = j by omega]
    have fs : (List.range (j + 1)).foldl st b0 = st ((List.range j).foldl st b0) j := by rw [List.range_succ, List.foldl_append]; rfl
    generalize hA : (List.range j).foldl st b0 = A at fs ⊢
    refine ⟨[.val (rL S), .val (.int w), .val (.lst (ch.map pD)), .val (.int (r : Int)), .val (.int (((List.range (j + 1)).foldl st b0 : Nat) : Int)), .val (.int (j : Int))], ?_, .val (.int (j : Int)), rfl⟩
    rw [fs]
    show evSs G (run G T fu (k + 1)) fu _ [.val (rL S), .val (.int w), .val (.lst (ch.map pD)), .val (.int (r : Int)), .val (.int (A : Int)), .val (.int (j : Int))] = some (.nx [.val (rL S), .val (.int w), .val (.lst (ch.map pD)), .val (.int (r : Int)), .val (.int ((st A j : Nat) : Int)), .val (.int (j : Int))])
    have q1 := b_eq (F := run G T fu (k + 1)) (G := G) (δ := [.val (rL S), .val (.int w), .val (.lst (ch.map pD)), .val (.int (r : Int)), .val (.int (A : Int)), .val (.int (j : Int))]) (q5p (a := .var 0) (b := .var 3) (e := .var 5) L (q0a rfl) (q0a rfl) (q0a rfl) hr hj) (q0a (n := 1) rfl)
    have q2 := z3K (fu := fu) (k := k) (S := S) (w := w) (r := r) (c := j) (ch := ch) (a := .val (.int (A : Int))) L hr hj hch (by omega)
    show _ = some (Out.nx [.val (rL S), .val (.int w), .val (.lst (ch.map pD)), .val (.int (r : Int)), .val (.int (((if f r j == w && ch.all (λ x => kp f x (r, j)) then max A (gM f w m rem (r + 1) (ch ++ [(r, j)])) else A) : Nat) : Int)), .val (.int (j : Int))])
    cases h1 : f r j == w with
    | false =>
     rw [h1] at q1
     rw [Bool.false_and, if_neg Bool.false_ne_true]
     exact q0D (q0f q1) rfl
    | true =>
     rw [h1] at q1
     rw [Bool.true_and]
     cases h2 : ch.all (λ x => kp f x (r, j)) with
     | false =>
      rw [h2] at q2
      rw [if_neg Bool.false_ne_true]
      exact q2v (q0f q1) (q0D (q0f q2) rfl) rfl
     | true =>
      rw [h2] at q2
      rw [if_pos rfl]
      have r2 := q7o R L n8 m8 w rem (r + 1) (ch ++ [(r, j)]) (k + 1) (by omega) (by omega) (by rw [List.length_append, List.length_singleton]; omega) (λ p hp => by
       rcases List.mem_append.mp hp with q | q
       ·exact hch p q
       ·rw [List.mem_singleton.mp q]; exact ⟨hr, hj⟩)
      have ea : evE G (run G T fu (k + 1)) (.bin .Add (.var 2) (.lst [.tup [.var 3, .var 5]])) [.val (rL S), .val (.int w), .val (.lst (ch.map pD)), .val (.int (r : Int)), .val (.int (A : Int)), .val (.int (j : Int))] = some (.ok (.lst ((ch ++ [(r, j)]).map pD)) .fresh) := by
       rw [List.map_append]
       exact q6O (cx := .strong) (cy := .fresh) (q0a rfl) rfl (by rw [List.length_map]; simp; omega)
      exact q2v (q0f q1) (q2v (q0f q2) (q0n (q0j (z4p (q0a rfl) (q0h (fr := false) (q0b (q0a rfl) (q0b (q0a rfl) (q0b ea (q0b (add1 (q0a rfl)) q0g)))) rfl r2)) rfl) rfl) rfl) rfl) ⟨.no, rfl⟩
  exact q1B (q0D (q0f t) (q0n (q0j s4 rfl) (q4k w5 (.inr rfl) lp (q1b (q1d (cl := .strong) (q0a rfl))))))
end k34
end
section
namespace k34
open PySem L2
variable {fu k : Nat} {F : Nat -> List DV -> Option Ou} {δ : List Sv} {ds : List DV} {cl : Cl} {n m : Nat} {f : Nat -> Nat -> Int} {d : DV} {rows : List (List Int)}
section
variable {G : Gs} {a b : ME} {r : List ME} {cx : Cl} {o : Option Re}
theorem or_f (ha : evE G F a δ = some (.ok (.bl false) cx)) (hb : evE G F (.or (b :: r)) δ = o) : evE G F (.or (a :: b :: r)) δ = o := by
 unfold evE at hb ⊢
 unfold evOr
 rw [ha]
 exact hb
theorem or_1 (ha : evE G F a δ = o) : evE G F (.or [a]) δ = o := by
 unfold evE evOr
 exact ha
end
noncomputable def pI (p : En) : Int × Int := ((p.1 : Int), (p.2 : Int))
theorem q8b : ∀ l : List En, pairs? (l.map pD) = some (l.map pI)
 | [] => rfl
 | p :: l => by
  have q := q8b l
  show (pairs? (l.map pD)).map (pI p :: ·) = _
  rw [q]
  rfl
theorem q6o : ∀ {l : List En}, l.Pairwise ltE -> q1E (l.map pI) = true
 | [], _ => rfl
 | [_], _ => rfl
 | p :: q :: l, h => by
  obtain ⟨h1, h2⟩ := List.pairwise_cons.mp h
  have e := q6o h2
  show (ltP (pI p) (pI q) && q1E ((q :: l).map pI)) = true
  rw [e, Bool.and_true]
  unfold ltP pI
  rcases h1 q (List.mem_cons_self ..) with z | ⟨z1, z2⟩
  ·rw [decide_eq_true (by show (p.1 : Int) < (q.1 : Int); omega)]; rfl
  ·rw [show ((p.1 : Int) == (q.1 : Int)) = true by rw [beq_iff_eq, z1], decide_eq_true (show (p.2 : Int) < (q.2 : Int) by omega), Bool.true_and, Bool.or_true]
theorem q8Z {e : ME} {l : List En} {c : Cl} (h : evE G F e δ = some (.ok (.lst (l.map pD)) c)) (hl : l.Pairwise ltE) (h64 : l.length < 64) : evE G F (.bi .sorted [e]) δ = some (.ok (.lst (l.map pD)) (Cl.anew c c)) := by
 show Rs.thn (evEs G F [e] δ) (λ l => q3D l) = _
 rw [q0b h q0g]
 show (match pairs? (l.map pD) with
  | some ps => if q1E ps = true /\ ps.length < 64 then some (Re.ok (.lst (l.map pD)) (Cl.anew c c)) else none
  | none => none) = _
 rw [q8b]
 show (if q1E (l.map pI) = true /\ (l.map pI).length < 64 then some (Re.ok (.lst (l.map pD)) (Cl.anew c c)) else none) = _
 rw [if_pos ⟨q6o hl, by rw [List.length_map]; exact h64⟩]
theorem z5s (p : En) : deq (pD p) (pD p) = true := by
 show deq (.tup [.int (p.1 : Int), .int (p.2 : Int)]) (.tup [.int (p.1 : Int), .int (p.2 : Int)]) = true
 simp [deq, deqs]
theorem q6u : ∀ l : List En, deqs (l.map pD) (l.map pD) = true
 | [] => rfl
 | p :: l => by
  have q := q6u l
  rw [List.map_cons]
  unfold deqs
  rw [q, z5s]
  rfl
theorem q9Z (l : List En) : cmpD .NotEq (.lst (l.map pD)) (.lst (l.map pD)) = some false := by
 have p1 : DV.plain 60 (.lst (l.map pD)) = true := q9z l
 have q : deq (.lst (l.map pD)) (.lst (l.map pD)) = true := q6u l
 show (if (DV.plain 60 (.lst (l.map pD)) && DV.plain 60 (.lst (l.map pD))) = true then some (!deq (.lst (l.map pD)) (.lst (l.map pD))) else none) = _
 rw [p1, q]
 rfl
theorem minP (p : En) : ∃ x : Int, 0 <= x /\ minD [(pD p, .strong)] = some (.ok (.int x) .strong) := by
 refine ⟨if (p.2 : Int) < (p.1 : Int) then (p.2 : Int) else (p.1 : Int), by split <;> omega, rfl⟩
theorem z2l {x : Int} : run G T fu (k + 1) 10 [.int x] = some (.v (.bl true) false) := z8b
noncomputable abbrev S6 (l : List En) (rows : List (List Int)) (w : Int) (x y z : Sv) : List Sv := [.val (.lst (l.map pD)), .val (tT rows), .val (.int w), x, y, z]
noncomputable abbrev gB : List MS := [.iff (.or [.not (.isi (.var 3) ["tuple"]), .cmp .NotEq (.bi .len [.var 3]) (.int 2), .not (.call 10 [.ix (.var 3) (.int 0)]), .not (.call 10 [.ix (.var 3) (.int 1)])]) [.ret (.bl false)] [], .iff (.or [.cmp .Lt (.bi .min [.var 3]) (.int 0), .cmp .GtE (.ix (.var 3) (.int 0)) (.bi .len [.var 1]), .cmp .GtE (.ix (.var 3) (.int 1)) (.bi .len [.ix (.var 1) (.int 0)]), .cmp .NotEq (.ix (.ix (.var 1) (.ix (.var 3) (.int 0))) (.ix (.var 3) (.int 1))) (.var 2)]) [.ret (.bl false)] []]
theorem z4M {l : List En} {w : Int} {p : En} {a b : Sv} (R : Rect n m rows) (p1 : p.1 < n) (p2 : p.2 < m) (pw : at2 rows p.1 p.2 = w) : evSs G (run G T fu (k + 1)) fu gB (S6 l rows w (.val (pD p)) a b) = some (.nx (S6 l rows w (.val (pD p)) a b)) := by
 have t1 : evE G (run G T fu (k + 1)) (.or [.not (.isi (.var 3) ["tuple"]), .cmp .NotEq (.bi .len [.var 3]) (.int 2), .not (.call 10 [.ix (.var 3) (.int 0)]), .not (.call 10 [.ix (.var 3) (.int 1)])]) (S6 l rows w (.val (pD p)) a b) = some (.ok (.bl false) .strong) :=
  or_f (cx := .strong) rfl (or_f (cx := .strong) rfl (or_f (cx := .strong) (q3L (x := true) (q0h (fr := false) (q0b (q4M (q0a rfl)) q0g) rfl z2l)) (or_1 (q3L (x := true) (q0h (fr := false) (q0b (q4K (q0a rfl)) q0g) rfl z2l)))))
 obtain ⟨x, hx, mx⟩ := minP p
 have m1 : evE G (run G T fu (k + 1)) (.bi .min [.var 3]) (S6 l rows w (.val (pD p)) a b) = some (.ok (.int x) .strong) := by
  rw [z2t (q0b (q0a rfl) q0g)]
  exact mx
 have l1 : evE G (run G T fu (k + 1)) (.bi .len [.var 1]) (S6 l rows w (.val (pD p)) a b) = some (.ok (.int (n : Int)) .strong) := by
  have q := q2p (F := run G T fu (k + 1)) (δ := (S6 l rows w (.val (pD p)) a b)) (e := .var 1) (ds := rows.map λ r => .tup (iD r)) (c := .strong) rfl
  rw [List.length_map, R.1] at q
  exact q
 have r0 : 0 < rows.length := by rw [R.1]; omega
 have l2 : evE G (run G T fu (k + 1)) (.bi .len [.ix (.var 1) (.int 0)]) (S6 l rows w (.val (pD p)) a b) = some (.ok (.int (m : Int)) .strong) := by
  have q := q2p (F := run G T fu (k + 1)) (δ := (S6 l rows w (.val (pD p)) a b)) (q1f (a := .var 1) (b := .int 0) (cx := .strong) (q0a rfl) (q0e (i := ((0 : Nat) : Int))) (q3R (rows := rows) r0))
  rw [show (iD (rows.getD 0 [])).length = m by unfold iD; rw [List.length_map]; exact R.2 _ (q0U r0)] at q
  exact q
 have q1 := b_lt m1 (q0e (i := 0))
 have q2 := b_ge (q4M (F := run G T fu (k + 1)) (δ := (S6 l rows w (.val (pD p)) a b)) (e := .var 3) (p := p) (q0a rfl)) l1
 have q3 := b_ge (q4K (F := run G T fu (k + 1)) (δ := (S6 l rows w (.val (pD p)) a b)) (e := .var 3) (p := p) (q0a rfl)) l2
 have q4 := b_ne (F := run G T fu (k + 1)) (δ := (S6 l rows w (.val (pD p)) a b)) (q5p (a := .var 1) (b := .ix (.var 3) (.int 0)) (e := .ix (.var 3) (.int 1)) (q5U R) (q0a rfl) (q4M (p := p) (q0a rfl)) (q4K (p := p) (q0a rfl)) p1 p2) (q0a (n := 2) rfl)
 rw [decide_eq_false (by omega)] at q1 q2 q3
 rw [pw, bne_self_eq_false] at q4
 exact q0D (q0f t1) (q0D (q0f (or_f q1 (or_f q2 (or_f q3 (or_1 q4))))) rfl)
theorem q9K {l : List En} {j : Nat} (h : j < l.length) : ixD (.lst (l.map pD)) (.int (j : Int)) = some (pD l[j]) := by
 show atD (l.map pD) (j : Int) = _
 unfold atD
 rw [z3I (by rw [List.length_map]; exact h), Option.bind_some, List.getElem?_map, List.getElem?_eq_getElem h]
 rfl
theorem z4W {l : List En} {P : En -> En -> Prop} (h : l.Pairwise P) {i j : Nat} (hij : i < j) (hj : j < l.length) : P l[i] l[j] := List.pairwise_iff_getElem.mp h i j (by omega) hj hij
theorem z5W (R : Rect n m rows) (hn : 0 < n) (n8 : n <= 8) (m8 : m <= 8) (hs : sm (FI rows).length (FI (flip m rows)).length = true) (w : Int) : run G T fu (k + 12) 20 [.lst ((tell rows m w).map pD), tT rows, .int w] = some (.v (.bl true) false) := by
 have R' := q2A R
 have hI : ∀ i ∈ FI rows, i < n := λ i hi => by have := q4L hi; rw [R.1] at this; exact this
 have hJ : ∀ j ∈ FI (flip m rows), j < m := λ j hj => by have := q4L hj; rw [R'.1] at this; exact this
 have s5 : (FI rows).length <= 5 /\ (FI (flip m rows)).length <= 5 := by
  unfold sm at hs
  rw [Bool.and_eq_true, decide_eq_true_iff, decide_eq_true_iff] at hs
  omega
 have s25 : (FI rows).length * (FI (flip m rows)).length <= 25 := Nat.mul_le_mul s5.1 s5.2
 have sb := q4R (kp (at2 rows)) _ (q2o (at2 rows) w (FI (flip m rows)) (FI rows)) (Nat.le_refl _)
 have ap := q5F (kp (at2 rows)) _ (q2o (at2 rows) w (FI (flip m rows)) (FI rows)) (Nat.le_refl _)
 have ll := q4h (at2 rows) w (FI (flip m rows)) (FI rows)
 have me := z4q (at2 rows) w (FI rows) (FI (flip m rows))
 have ri : (tell rows m w).Pairwise ltE := (q6m (q7t _) (q7t _)).sublist sb
 have hin : ∀ p ∈ tell rows m w, p.1 < n /\ p.2 < m /\ at2 rows p.1 p.2 = w := λ p hp => by
  have q := q5k (sb.subset hp)
  exact ⟨hI _ q.1, hJ _ q.2.1, q.2.2⟩
 have hlen : (tell rows m w).length <= 25 := by
  have := sb.length_le
  unfold tell
  omega
 change (tell rows m w).Pairwise (λ a b => kp (at2 rows) a b = true) at ap
 change (tell rows m w).length = _ at me
 generalize hl : tell rows m w = l at ri hin hlen ap me ⊢
 rw [q0P (fd := q2g) rfl rfl]
 unfold q2g
 have t1 : evE G (run G T fu (k + 11)) (.or [.not (.isi (.var 0) ["list"]), .cmp .NotEq (.var 0) (.bi .sorted [.var 0])]) (q0q 6 [.lst (l.map pD), tT rows, .int w]) = some (.ok (.bl false) .strong) :=
  q7g (q3L (x := true) (cl := .strong) rfl) (q1Q (q0a rfl) (q8Z (c := .strong) (q0a rfl) ri (by omega)) (q9Z l))
 obtain ⟨δ1, lp1, z1, rfl⟩ := q2B (I := λ δ => ∃ z : Sv, δ = (S6 l rows w z .no .no)) (tg := .one 3)
  (body := λ δ' => evSs G (run G T fu (k + 11)) fu gB δ')
  (ds := l.map pD) (δ := (S6 l rows w .no .no .no)) (λ d hd δ I => by
   obtain ⟨z, rfl⟩ := I
   obtain ⟨p, hp, rfl⟩ := List.mem_map.mp hd
   obtain ⟨a1, a2, a3⟩ := hin p hp
   exact ⟨_, _, rfl, z4M (fu := fu) (k := k + 10) (l := l) (a := .no) (b := .no) R a1 a2 a3, .val (pD p), rfl⟩) ⟨.no, rfl⟩
 have L := q5U R
 obtain ⟨δ2, lp2, z2, z3, rfl⟩ := q1M (i := 4) (I := λ _ δ => ∃ z2 z3 : Sv, δ = (S6 l rows w z1 z2 z3))
  (body := λ δ' => evSs G (run G T fu (k + 11)) fu [.fo (.one 5) (.rng [.var 4]) [.iff (.not (.call 18 [.var 1, .ix (.var 0) (.var 5), .ix (.var 0) (.var 4)])) [.ret (.bl false)] []]] δ') l.length 0 (δ := (S6 l rows w z1 .no .no))
  (λ a ha δ I => by
   obtain ⟨z2, z3, rfl⟩ := I
   rw [show (0 : Int) + (a : Int) = a by omega]
   obtain ⟨δ', lp, z, rfl⟩ := q1M (i := 5) (I := λ _ δ => ∃ z3 : Sv, δ = (S6 l rows w z1 (.val (.int (a : Int))) z3))
    (body := λ δ' => evSs G (run G T fu (k + 11)) fu [.iff (.not (.call 18 [.var 1, .ix (.var 0) (.var 5), .ix (.var 0) (.var 4)])) [.ret (.bl false)] []] δ') a 0 (δ := (S6 l rows w z1 (.val (.int (a : Int))) z3))
    (λ b hb δ I => by
     obtain ⟨z3, rfl⟩ := I
     rw [show (0 : Int) + (b : Int) = b by omega]
     have hbl : b < l.length := by omega
     have pa := hin l[a] (List.getElem_mem ha)
     have pb := hin l[b] (List.getElem_mem hbl)
     have kk := q5u (fu := fu) (k := k + 10) L pb.1 pb.2.1 pa.1 pa.2.1
     rw [z4W ap hb ha] at kk
     exact ⟨_, q0D (q0f (cl := .strong) (q3L (x := true) (q0h (fr := false) (l := [(tT rows, .strong), (pD l[b], .strong), (pD l[a], .strong)]) (q0b (q0a rfl) (q0b (q1f (cx := .strong) (q0a rfl) (q0a rfl) (q9K hbl)) (q0b (q1f (cx := .strong) (q0a rfl) (q0a rfl) (q9K ha)) q0g))) rfl kk))) rfl, .val (.int (b : Int)), rfl⟩) ⟨z3, rfl⟩
   exact ⟨_, q4k (q5N (n := a) (q0a rfl) (by omega)) (.inr rfl) lp rfl, .val (.int (a : Int)), z, rfl⟩) ⟨.no, .no, rfl⟩
 have Rs : Rect (FI rows).length (FI (flip m rows)).length (sub rows (FI rows) (FI (flip m rows))) := by
  unfold sub
  refine ⟨List.length_map .., λ r hr => ?_⟩
  obtain ⟨i, _, rfl⟩ := List.mem_map.mp hr
  exact List.length_map ..
 have Ls : Look (rL (sub rows (FI rows) (FI (flip m rows)))) (FI rows).length (FI (flip m rows)).length (λ i j => at2 rows ((FI rows).getD i 0) ((FI (flip m rows)).getD j 0)) := λ i hi => by
  obtain ⟨x, h1, h2⟩ := z6F Rs i hi
  refine ⟨x, h1, λ j hj => ?_⟩
  rw [h2 j hj]
  congr 2
  unfold at2 sub
  rw [List.getD_eq_getElem?_getD, List.getD_eq_getElem?_getD, List.getElem?_map, List.getElem?_eq_getElem hi, Option.map_some, Option.getD_some, List.getElem?_map, List.getElem?_eq_getElem hj, Option.map_some, Option.getD_some]
  dsimp only
  rw [List.getD_eq_getElem?_getD (l := FI rows), List.getElem?_eq_getElem hi, List.getD_eq_getElem?_getD (l := FI (flip m rows)), List.getElem?_eq_getElem hj]
  rfl
 have mo := q7o (fu := fu) Rs Ls (by omega) (by omega) w (FI rows).length 0 [] (k + 11) (by omega) (by omega) (by rw [List.length_nil]; omega) (λ p hp => nomatch hp)
 have tr := q8v (fu := fu) (k := k + 10) R hn n8 m8
 have fin : evE G (run G T fu (k + 11)) (.cmp .Eq (.bi .len [.var 0]) (.call 19 [.call 15 [.var 1], .var 2, .lst [], .int 0])) (S6 l rows w z1 z2 z3) = some (.ok (.bl true) .strong) := by
  have q := z1Z (q1m (F := run G T fu (k + 11)) (δ := (S6 l rows w z1 z2 z3)) (e := .var 0) (ds := l.map pD) (c := .strong) rfl) (q0h (fr := false) (f := 19) (es := [.call 15 [.var 1], .var 2, .lst [], .int 0]) (l := [(rL (sub rows (FI rows) (FI (flip m rows))), .fresh), (.int w, .strong), (.lst [], .fresh), (.int 0, .strong)]) (q0b (q0h (fr := true) (l := [(tT rows, .strong)]) rfl rfl tr) (q0b (q0a rfl) (q0b (a := .lst []) rfl (q0b q0e q0g)))) rfl mo)
  rw [List.length_map, me, beq_self_eq_true] at q
  exact q
 have w2 : q0L (evE G (run G T fu (k + 11)) (.rng [.bi .len [.var 0]]) (S6 l rows w z1 .no .no)) = some (.ok (upTo 0 l.length) .fresh) := by
  have q := q1m (F := run G T fu (k + 11)) (δ := (S6 l rows w z1 .no .no)) (e := .var 0) (ds := l.map pD) (c := .strong) rfl
  rw [List.length_map] at q
  exact q5N q (by omega)
 exact q1B (q0D (q0f t1) (q4k (ds := l.map pD) (cl := .strong) rfl (.inl rfl) lp1 (q4k w2 (.inr rfl) lp2 (q1b (q1d fin)))))
end k34
end
section
namespace k34
open PySem L2
variable {fu k : Nat} {F : Nat -> List DV -> Option Ou} {δ : List Sv} {ds : List DV} {cl : Cl} {n m : Nat} {f : Nat -> Nat -> Int} {d : DV} {rows : List (List Int)}
noncomputable def Few (L : List (List Int)) : Prop := ∃ S : List (List Int), S.length <= 5 /\ ∀ r ∈ L, r ∈ S
theorem q6w {α : Type} [BEq α] [LawfulBEq α] : ∀ {l S : List α}, l.Nodup -> (∀ x ∈ l, x ∈ S) -> l.length <= S.length
 | [], _, _, _ => Nat.zero_le _
 | a :: l, S, h, hs => by
  obtain ⟨h1, h2⟩ := List.nodup_cons.mp h
  have ha := hs a (List.mem_cons_self ..)
  have q := q6w (S := S.erase a) h2 λ x hx => (List.mem_erase_of_ne (λ e => h1 (by rw [<- e]; exact hx))).mpr (hs x (List.mem_cons_of_mem _ hx))
  rw [List.length_erase_of_mem ha] at q
  have := List.length_pos_of_mem ha
  rw [List.length_cons]
  omega
theorem q7P (h : Few rows) : (FI rows).length <= 5 := by
 obtain ⟨S, h1, h2⟩ := h
 have q : ((FI rows).map λ r => rows.getD r []).length <= S.length := by
  refine q6w ?_ λ x hx => ?_
  ·rw [List.nodup_iff_pairwise_ne, List.pairwise_map]
   refine List.Pairwise.imp_of_mem (λ {a b} ha hb hne => ?_) (q7t rows)
   intro e
   have e1 := eq_of_beq (List.mem_filter.mp ha).2
   have e2 := eq_of_beq (List.mem_filter.mp hb).2
   rw [e] at e1
   omega
  ·obtain ⟨i, hi, rfl⟩ := List.mem_map.mp hx
   exact h2 _ (q0U (q4L hi))
 rw [List.length_map] at q
 omega
theorem z0q (h : rows.length <= 5) : Few rows := ⟨rows, h, λ _ hr => hr⟩
noncomputable def ins (a s : Nat) (l : List Int) : List Int := l.take a ++ [l.getD s 0] ++ l.drop a
theorem z3l {a s : Nat} {l : List Int} : (ins a s l).length = l.length + 1 := by
 unfold ins
 rw [List.length_append, List.length_append, List.length_take, List.length_drop, List.length_singleton]
 omega
noncomputable def src (a s j : Nat) : Nat := if j < a then j else if j = a then s else j - 1
theorem z0S {a s j : Nat} {l : List Int} (ha : a <= l.length) : (ins a s l).getD j 0 = l.getD (src a s j) 0 := by
 unfold ins src
 simp only [List.getD_eq_getElem?_getD]
 have lt : (l.take a).length = a := by rw [List.length_take]; omega
 by_cases h1 : j < a
 ·rw [if_pos h1, List.getElem?_append_left (by rw [List.length_append, lt, List.length_singleton]; omega), List.getElem?_append_left (by rw [lt]; exact h1), List.getElem?_take_of_lt h1]
 ·rw [if_neg h1]
  by_cases h2 : j = a
  ·rw [if_pos h2, List.getElem?_append_left (by rw [List.length_append, lt, List.length_singleton]; omega), List.getElem?_append_right (by rw [lt]; omega), lt, h2, Nat.sub_self]
   rfl
  ·rw [if_neg h2, List.getElem?_append_right (by rw [List.length_append, lt, List.length_singleton]; omega), List.length_append, lt, List.length_singleton, List.getElem?_drop]
   congr 2
   omega
noncomputable def insR (a s : Nat) (rows : List (List Int)) : List (List Int) := rows.take a ++ [rows.getD s []] ++ rows.drop a
structure Tb (n m : Nat) (rows : List (List Int)) : Prop where
 n0 : 0 < n
 n8 : n <= 8
 m0 : 0 < m
 m8 : m <= 8
 R : Rect n m rows
 fr : Few rows
 fc : Few (flip m rows)
theorem Tb.sm (t : Tb n m rows) : sm (FI rows).length (FI (flip m rows)).length = true := by
 have h1 := q7P t.fr
 have h2 := q7P t.fc
 unfold k34.sm
 rw [decide_eq_true (by omega), decide_eq_true (by omega)]
 rfl
theorem Tb.row (t : Tb n m rows) {a s : Nat} (hn : n < 8) (ha : a <= n) (hs : s < n) : Tb (n + 1) m (insR a s rows) := by
 have mem : ∀ r ∈ insR a s rows, r ∈ rows := λ r hr => by
  unfold insR at hr
  rcases List.mem_append.mp hr with q | q
  ·rcases List.mem_append.mp q with q | q
   ·exact List.mem_of_mem_take q
   ·rw [List.mem_singleton.mp q]; exact q0U (by rw [t.R.1]; exact hs)
  ·exact List.mem_of_mem_drop q
 refine ⟨by omega, by omega, t.m0, t.m8, ⟨?_, λ r hr => t.R.2 r (mem r hr)⟩, ?_, ?_⟩
 ·unfold insR
  rw [List.length_append, List.length_append, List.length_take, List.length_drop, List.length_singleton, t.R.1]
  omega
 ·obtain ⟨S, h1, h2⟩ := t.fr
  exact ⟨S, h1, λ r hr => h2 r (mem r hr)⟩
 ·obtain ⟨S, h1, h2⟩ := t.fc
  refine ⟨S.map (ins a s), by rw [List.length_map]; exact h1, λ r hr => ?_⟩
  obtain ⟨j, hj, rfl⟩ := List.mem_map.mp hr
  refine List.mem_map.mpr ⟨col rows j, h2 _ (List.mem_map.mpr ⟨j, hj, rfl⟩), ?_⟩
  unfold col ins insR
  rw [List.map_append, List.map_append, List.map_take, List.map_drop]
  congr 2
  rw [List.getD_eq_getElem?_getD, List.getElem?_map, List.getElem?_eq_getElem (by rw [t.R.1]; exact hs), List.map_singleton, List.getD_eq_getElem?_getD (l := rows), List.getElem?_eq_getElem (by rw [t.R.1]; exact hs)]
  rfl
theorem Tb.colm (t : Tb n m rows) {a s : Nat} (hm : m < 8) (ha : a <= m) (hs : s < m) : Tb n (m + 1) (rows.map (ins a s)) := by
 refine ⟨t.n0, t.n8, by omega, by omega, ⟨by rw [List.length_map, t.R.1], λ r hr => ?_⟩, ?_, ?_⟩
 ·obtain ⟨r', hr', rfl⟩ := List.mem_map.mp hr
  rw [z3l, t.R.2 r' hr']
 ·obtain ⟨S, h1, h2⟩ := t.fr
  refine ⟨S.map (ins a s), by rw [List.length_map]; exact h1, λ r hr => ?_⟩
  obtain ⟨r', hr', rfl⟩ := List.mem_map.mp hr
  exact List.mem_map.mpr ⟨r', h2 r' hr', rfl⟩
 ·obtain ⟨S, h1, h2⟩ := t.fc
  refine ⟨S, h1, λ r hr => ?_⟩
  obtain ⟨j, hj, rfl⟩ := List.mem_map.mp hr
  have hj' := List.mem_range.mp hj
  have e : col (rows.map (ins a s)) j = col rows (src a s j) := by
   unfold col
   rw [List.map_map]
   apply List.map_congr_left
   intro r hr
   exact z0S (by rw [t.R.2 r hr]; exact ha)
  rw [e]
  refine h2 _ (List.mem_map.mpr ⟨src a s j, List.mem_range.mpr ?_, rfl⟩)
  unfold src
  split
  ·omega
  ·split <;> omega
theorem z0L {elt eo ei : ME} {fi fo : List (Option Nat)} {g : Nat -> Nat -> Int} (hn : evE G F eo δ = some (.ok (.int (n : Int)) .strong)) (n5 : n <= 8) (m5 : m <= 8) (ho : ∀ r, r < n -> ∃ δ1, (Tg.one 0).bind (.int (r : Int)) (q0s fo δ) = some δ1 /\ evE G F ei δ1 = some (.ok (.int (m : Int)) .strong) /\ ∀ c, c < m -> ∃ δ2, (Tg.one 0).bind (.int (c : Int)) (q0s fi δ1) = some δ2 /\ evE G F elt δ2 = some (.ok (.int (g r c)) .strong)) :
  evE G F (.comp (.comp elt (.one 0) (.rng [ei]) fi) (.one 0) (.rng [eo]) fo) δ = some (.ok (rL ((List.range n).map λ r => (List.range m).map (g r))) .fresh) := by
 have e := q0Y (l := List.range n) (h := λ (j : Nat) => DV.int (j : Int)) (f := λ r => .lst (iD ((List.range m).map (g r)))) (elt := .comp elt (.one 0) (.rng [ei]) fi) (tg := .one 0) (fr := fo) (q5B hn (by omega)) (by decide) (by rw [List.length_range]; exact Nat.le_trans n5 (by decide)) λ r hr => by
  obtain ⟨δ1, h1, h2, h3⟩ := ho r (List.mem_range.mp hr)
  refine ⟨δ1, .fresh, h1, ?_, rfl⟩
  have q := q0Y (F := F) (δ := δ1) (l := List.range m) (h := λ (j : Nat) => DV.int (j : Int)) (f := λ c => .int (g r c)) (elt := elt) (tg := .one 0) (fr := fi) (q5B h2 (by omega)) (by decide) (by rw [List.length_range]; exact Nat.le_trans m5 (by decide)) λ c hc => by
   obtain ⟨δ2, h4, h5⟩ := h3 c (List.mem_range.mp hc)
   exact ⟨δ2, .strong, h4, h5, rfl⟩
  rw [q]
  unfold iD
  rw [List.map_map]
  rfl
 rw [e]
 unfold rL
 rw [List.map_map]
 rfl
theorem q2y (g : Nat -> Nat -> Int) : Rect n m ((List.range n).map λ r => (List.range m).map (g r)) := by
 refine ⟨by rw [List.length_map, List.length_range], λ r hr => ?_⟩
 obtain ⟨i, _, rfl⟩ := List.mem_map.mp hr
 rw [List.length_map, List.length_range]
theorem q7m {e : ME} {b : Bool} {c : Cl} (h : evE G F e δ = some (.ok (.bl b) c)) : evE G F (.bi .int [e]) δ = some (.ok (.int (if b then 1 else 0)) .strong) := by
 show Rs.thn (evEs G F [e] δ) (λ l => intD l) = _
 rw [q0b h q0g]
 rfl
theorem top4 (x : Int) : ∃ tp : Int, 0 < tp /\ ixD (.lst [.int 2, .int 3, .int 10, .int 2]) (.int (x % 4)) = some (.int tp) := by
 have : x % 4 = 0 \/ x % 4 = 1 \/ x % 4 = 2 \/ x % 4 = 3 := by omega
 rcases this with h | h | h | h <;> rw [h]
 ·exact ⟨2, by decide, rfl⟩
 ·exact ⟨3, by decide, rfl⟩
 ·exact ⟨10, by decide, rfl⟩
 ·exact ⟨2, by decide, rfl⟩
theorem z7e (x : Int) : ∃ tp : Int, 0 < tp /\ tp <= 5 /\ ixD (.lst [.int 4, .int 4, .int 4, .int 4, .int 4, .int 4, .int 4, .int 5]) (.int (x % 8)) = some (.int tp) := by
 have : x % 8 = 0 \/ x % 8 = 1 \/ x % 8 = 2 \/ x % 8 = 3 \/ x % 8 = 4 \/ x % 8 = 5 \/ x % 8 = 6 \/ x % 8 = 7 := by omega
 rcases this with h | h | h | h | h | h | h | h <;> rw [h]
 ·exact ⟨4, by decide, by decide, rfl⟩
 ·exact ⟨4, by decide, by decide, rfl⟩
 ·exact ⟨4, by decide, by decide, rfl⟩
 ·exact ⟨4, by decide, by decide, rfl⟩
 ·exact ⟨4, by decide, by decide, rfl⟩
 ·exact ⟨4, by decide, by decide, rfl⟩
 ·exact ⟨4, by decide, by decide, rfl⟩
 ·exact ⟨5, by decide, by decide, rfl⟩
end k34
end
section
namespace k34
open PySem L2
variable {fu k : Nat} {F : Nat -> List DV -> Option Ou} {δ : List Sv} {ds : List DV} {cl : Cl} {n m : Nat} {f : Nat -> Nat -> Int} {d : DV} {rows : List (List Int)}
theorem q3X {xs : List Int} {i : Int} (h0 : 0 <= i) (h : i < xs.length) : ∃ v, ∀ {F : Nat -> List DV -> Option Ou} {δ : List Sv} {e : ME}, evE G F e δ = some (.ok (.lst (xs.map DV.int)) .strong) -> evE G F (.ix e (.int i)) δ = some (.ok (.int v) .strong) := by
 obtain ⟨v, hv⟩ := z2m (l := xs) h0 h
 exact ⟨v, λ he => q1f (cx := .strong) he q0e hv⟩
noncomputable abbrev Sc (ns xs : List Int) (mo : Int) (n m : Nat) (tp : Int) (x y z : Sv) : List Sv := [.val (.scr ns), .val (.int 2), .val (.lst (xs.map DV.int)), .val (.int mo), .val (.int n), .val (.int m), .val (.int tp), x, y, z]
theorem z4T (ns : List Int) (hns : ns.length <= 63) (xs : List Int) (hx : xs.length = 24) : ∃ (n m : Nat) (rows : List (List Int)), 0 < n /\ n <= 5 /\ 0 < m /\ m <= 5 /\ Rect n m rows /\ run G T fu (k + 2) 13 [.scr ns, .int 2, .lst (xs.map DV.int)] = some (.v (rL rows) false) := by
 obtain ⟨v1, c1⟩ := q7U (fu := fu) (k := k) ns 1
 obtain ⟨a0, h0⟩ := q3X (xs := xs) (i := 0) (by omega) (by rw [hx]; omega)
 obtain ⟨a1, h1⟩ := q3X (xs := xs) (i := 1) (by omega) (by rw [hx]; omega)
 obtain ⟨a2, h2⟩ := q3X (xs := xs) (i := 2) (by omega) (by rw [hx]; omega)
 obtain ⟨a3, h3⟩ := q3X (xs := xs) (i := 3) (by omega) (by rw [hx]; omega)
 obtain ⟨a4, h4⟩ := q3X (xs := xs) (i := 4) (by omega) (by rw [hx]; omega)
 obtain ⟨a5, h5⟩ := q3X (xs := xs) (i := 5) (by omega) (by rw [hx]; omega)
 obtain ⟨mo, mo0, mo5, hmo⟩ := z7e a0
 obtain ⟨tp, htp, htop⟩ := top4 a3
 have b1 := Int.emod_nonneg a1 (b := mo) (by omega)
 have b2 := Int.emod_lt_of_pos a1 (b := mo) mo0
 have b3 := Int.emod_nonneg a2 (b := mo) (by omega)
 have b4 := Int.emod_lt_of_pos a2 (b := mo) mo0
 obtain ⟨n, hn⟩ : ∃ n : Nat, 1 + a1 % mo = (n : Int) := ⟨(1 + a1 % mo).toNat, by omega⟩
 obtain ⟨m, hm⟩ : ∃ m : Nat, 1 + a2 % mo = (m : Int) := ⟨(1 + a2 % mo).toNat, by omega⟩
 have n5 : n <= 5 := by omega
 have m5 : m <= 5 := by omega
 have nm : n * m <= 25 := Nat.mul_le_mul n5 m5
 obtain ⟨ws0, hw0, st1⟩ := q5E (fu := fu) (k := k) v1 (n * m) (by omega)
 have mk1 : q4y (n : Int) (m : Int) = true := by unfold q4y; simp; omega
 have cm := z3Y (G := G) (F := run G T fu (k + 1)) (δ := (Sc ns xs mo n m tp .no .no .no)) (elt := .bin .Mod (.var 0) (.var 1)) (tg := .one 0) (it := .call 12 [.call 11 [.var 0, .int 1], .bin .Mult (.var 4) (.var 5)]) (fr := [none, some 6]) (f := λ d => match d with | .int x => .int (x % tp) | d => d) (ds := ws0.map DV.int) (cl := .fresh)
  (by
   have q := q0h (G := G) (F := run G T fu (k + 1)) (δ := (Sc ns xs mo n m tp .no .no .no)) (f := 12) (q0b (q0h (f := 11) (q0b (q0a (n := 0) (d := .scr ns) rfl) (q0b (q0e (i := 1)) q0g)) rfl c1) (q0b (q8r (q0a (n := 4) (d := .int n) rfl) (q0a (n := 5) (d := .int m) rfl) mk1) q0g)) rfl (by rw [show ((n : Int) * (m : Int)) = ((n * m : Nat) : Int) by push_cast; rfl]; exact st1)
   rw [q]
   rfl) (by decide) (by rw [List.length_map, hw0]; exact Nat.le_trans nm (by decide)) (λ d hd => by
   obtain ⟨x, hx, rfl⟩ := List.mem_map.mp hd
   exact ⟨[.val (.int x), .val (.int tp)], rfl, q1i (q0a rfl) (q0a rfl) htp⟩)
 rw [List.map_map, show ((λ d => match d with | DV.int x => DV.int (x % tp) | d => d) ∘ DV.int) = DV.int ∘ (λ x : Int => x % tp) from rfl, <- List.map_map] at cm
 obtain ⟨b, hb, hb1, hb2⟩ : ∃ b : Int, (if (ns.length : Int) - 2 < (n : Int) * m then (ns.length : Int) - 2 else (n : Int) * m) = b /\ b <= ((n * m : Nat) : Int) /\ b <= (ns.length : Int) - 2 := by
  refine ⟨_, rfl, ?_, ?_⟩ <;> split <;> push_cast <;> omega
 have hb3 : -1000 <= b := by
  rw [<- hb]
  have : (0 : Int) <= (n : Int) * m := Int.mul_nonneg (Int.natCast_nonneg n) (Int.natCast_nonneg m)
  split <;> omega
 obtain ⟨δ1, l1, ws, z, hw, rfl⟩ := q1M (i := 8) (I := λ _ δ => ∃ (ws : List Int) (z : Sv), ws.length = n * m /\ δ = (Sc ns xs mo n m tp (.own (.lst (ws.map DV.int))) z .no))
  (body := λ δ' => evSs G (run G T fu (k + 1)) fu [.seti 7 (.var 8) (.bin .Mod (.ix (.var 0) (.bin .Add (.var 1) (.var 8))) (.var 6))] δ') b.toNat 0 (δ := (Sc ns xs mo n m tp (.own (.lst ((ws0.map λ x => x % tp).map DV.int))) .no .no))
  (λ j hj δ I => by
   obtain ⟨ws, z, hw, rfl⟩ := I
   rw [show (0 : Int) + (j : Int) = j by omega]
   have h3 : 2 + j < ns.length := by omega
   have hv : ixD (.scr ns) (.int (2 + (j : Int))) = some (.int ns[2 + j]) := by
    rw [show (2 : Int) + (j : Int) = ((2 + j : Nat) : Int) by push_cast; rfl]
    show ((q2a ns.length ((2 + j : Nat) : Int)).bind λ j => ns[j]?).map DV.int = _
    rw [z3I h3, Option.bind_some, List.getElem?_eq_getElem h3]
    rfl
   refine ⟨_, q0n (z3n (d := .int (ns[2 + j] % tp)) (cl := .strong) (n := j) (cx := .strong) (j := j) rfl (q1i (q1f (q0a rfl) (q4G (q0a rfl) (q0a rfl)) hv) (q0a rfl) htp) (q0a rfl) rfl (z3I (by rw [List.length_map, hw]; omega))) rfl, ws.set j (ns[2 + j] % tp), .val (.int j), by rw [List.length_set]; exact hw, ?_⟩
   rw [List.map_set]
   rfl) ⟨ws0.map λ x => x % tp, .no, by rw [List.length_map]; exact hw0, rfl⟩
 have em : evE G (run G T fu (k + 1)) (.bi .min [.bin .Mult (.var 4) (.var 5), .bin .Sub (.bi .len [.var 0]) (.var 1)]) (Sc ns xs mo n m tp (.own (.lst ((ws0.map λ x => x % tp).map DV.int))) .no .no) = some (.ok (.int b) .strong) := by
  have e1 : evE G (run G T fu (k + 1)) (.bi .len [.var 0]) (Sc ns xs mo n m tp (.own (.lst ((ws0.map λ x => x % tp).map DV.int))) .no .no) = some (.ok (.int ns.length) .strong) := rfl
  rw [z2t (q0b (q8r (q0a (n := 4) (d := .int n) rfl) (q0a (n := 5) (d := .int m) rfl) mk1) (q0b (z3z e1 (q0a (n := 1) (d := .int 2) rfl)) q0g)), <- hb]
  rfl
 have rt := z1u (F := run G T fu (k + 1)) (δ := (Sc ns xs mo n m tp (.own (.lst (ws.map DV.int))) z .no)) (elt := .sl (.var 1) (.bin .Mult (.var 0) (.var 2)) (.bin .Add (.bin .Mult (.var 0) (.var 2)) (.var 2))) (tg := .one 0) (it := .rng [.var 4]) (fr := [none, some 7, some 5]) (f := λ d => match d with | .int j => .lst (iD ((ws.drop (j.toNat * m)).take m)) | d => d) (ds := upTo 0 n) (cl := .fresh)
  (q5N (q0a rfl) (by omega)) (by decide) (by unfold L2.upTo; rw [List.length_map, List.length_range]; exact Nat.le_trans n5 (by decide)) (λ d hd => by
   obtain ⟨j, hj, rfl⟩ := z1Y hd
   rw [show (0 : Int) + (j : Int) = j by omega]
   have mk2 : q4y (j : Int) (m : Int) = true := by unfold q4y; simp; omega
   refine ⟨[.val (.int j), .own (.lst (iD ws)), .val (.int m)], .fresh, rfl, ?_, rfl⟩
   show _ = some (Re.ok (.lst (iD ((ws.drop ((j : Int).toNat * m)).take m))) .fresh)
   rw [Int.toNat_natCast, <- z4B hw hj]
   exact z7c (q3J rfl) (q8r (q0a rfl) (q0a rfl) mk2) (q4G (q8r (q0a rfl) (q0a rfl) mk2) (q0a rfl)))
 have hf : (upTo 0 n).map (λ d => match d with | .int j => DV.lst (iD ((ws.drop (j.toNat * m)).take m)) | d => d) = (q3K n m ws).map λ r => .lst (iD r) := by
  unfold L2.upTo q3K
  rw [List.map_map, List.map_map]
  apply List.map_congr_left
  intro j _
  show DV.lst (iD ((ws.drop (((0 : Int) + (j : Int)).toNat * m)).take m)) = _
  rw [show ((0 : Int) + (j : Int)).toNat = j by omega]
  rfl
 rw [hf] at rt
 let D : DV -> List Sv := λ r => (Sc ns xs mo n m tp (.own (.lst (ws.map DV.int))) z (.val r))
 have g1 : ∀ r, evE G (run G T fu (k + 1)) (.comp (.comp (.bi .int [.cmp .Eq (.var 1) (.var 0)]) (.one 0) (.rng [.var 1]) [none, some 0]) (.one 0) (.rng [.var 4]) [none, some 5]) (D r) = some (.ok (rL ((List.range n).map λ (r : Nat) => (List.range m).map λ (c : Nat) => if ((r : Int) == (c : Int)) then (1 : Int) else 0)) .fresh) := λ r =>
  z0L (n := n) (m := m) (g := λ (r c : Nat) => if ((r : Int) == (c : Int)) then 1 else 0) (q0a rfl) (by omega) (by omega) λ r hr => ⟨[.val (.int (r : Int)), .val (.int (m : Int))], rfl, q0a rfl, λ c hc => ⟨[.val (.int (c : Int)), .val (.int (r : Int))], rfl, q7m (b_eq (q0a rfl) (q0a rfl))⟩⟩
 have g2 : ∀ r, evE G (run G T fu (k + 1)) (.comp (.comp (.bi .int [.cmp .Lt (.var 1) (.var 0)]) (.one 0) (.rng [.var 1]) [none, some 0]) (.one 0) (.rng [.var 4]) [none, some 5]) (D r) = some (.ok (rL ((List.range n).map λ (r : Nat) => (List.range m).map λ (c : Nat) => if decide ((r : Int) < (c : Int)) then (1 : Int) else 0)) .fresh) := λ r =>
  z0L (n := n) (m := m) (g := λ (r c : Nat) => if decide ((r : Int) < (c : Int)) then 1 else 0) (q0a rfl) (by omega) (by omega) λ r hr => ⟨[.val (.int (r : Int)), .val (.int (m : Int))], rfl, q0a rfl, λ c hc => ⟨[.val (.int (c : Int)), .val (.int (r : Int))], rfl, q7m (b_lt (q0a rfl) (q0a rfl))⟩⟩
 have g3 : ∀ r, evE G (run G T fu (k + 1)) (.comp (.comp (.bin .Mod (.ix (.var 1) (.int 5)) (.int 10)) (.one 0) (.rng [.var 1]) [none, some 2]) (.one 0) (.rng [.var 4]) [none, some 5, some 2]) (D r) = some (.ok (rL ((List.range n).map λ (_ : Nat) => (List.range m).map λ (_ : Nat) => a5 % 10)) .fresh) := λ r =>
  z0L (n := n) (m := m) (g := λ (r c : Nat) => a5 % 10) (q0a rfl) (by omega) (by omega) λ r hr => ⟨[.val (.int (r : Int)), .val (.int (m : Int)), .val (.lst (xs.map DV.int))], rfl, q0a rfl, λ c hc => ⟨[.val (.int (c : Int)), .val (.lst (xs.map DV.int))], rfl, q1i (h5 (q0a rfl)) q0e (by decide)⟩⟩
 have tq : ∀ (r : DV) (j : Int), evE G (run G T fu (k + 1)) (.cmp .Eq (.bin .Mod (.ix (.var 2) (.int 4)) (.int 8)) (.int j)) (D r) = some (.ok (.bl (a4 % 8 == j)) .strong) := λ r j => b_eq (q1i (h4 (q0a rfl)) q0e (by decide)) q0e
 obtain ⟨rows, Rr, tail⟩ : ∃ rows, Rect n m rows /\ evSs G (run G T fu (k + 1)) fu (q1l.body.drop 7) (D (rL (q3K n m ws))) = some (.rt (rL rows) false) := by
  unfold q1l
  simp only [List.drop_succ_cons, List.drop_zero]
  by_cases q1 : a4 % 8 = 1
  ·refine ⟨_, q2y (λ (r c : Nat) => if ((r : Int) == (c : Int)) then 1 else 0), q2v (q0f (by rw [tq, q1]; rfl)) (q0n (q0j (g1 _) rfl) rfl) (q0D (q0f (show _ = some (Re.ok (.bl false) .strong) from by rw [show ((D (rL (q3K n m ws))).set 9 _) = D _ from rfl, tq, q1]; rfl)) (q0D (q0f (show _ = some (Re.ok (.bl false) .strong) from by rw [show ((D (rL (q3K n m ws))).set 9 _) = D _ from rfl, tq, q1]; rfl)) (q1b rfl)))⟩
  ·have n1 : (a4 % 8 == 1) = false := beq_eq_false_iff_ne.mpr q1
   by_cases q2 : a4 % 8 = 2
   ·refine ⟨_, q2y (λ (r c : Nat) => if decide ((r : Int) < (c : Int)) then 1 else 0), q0D (q0f (by rw [tq, n1])) (q2v (q0f (by rw [tq, q2]; rfl)) (q0n (q0j (g2 _) rfl) rfl) (q0D (q0f (show _ = some (Re.ok (.bl false) .strong) from by rw [show ((D (rL (q3K n m ws))).set 9 _) = D _ from rfl, tq, q2]; rfl)) (q1b rfl)))⟩
   ·have n2 : (a4 % 8 == 2) = false := beq_eq_false_iff_ne.mpr q2
    by_cases q3 : a4 % 8 = 3
    ·refine ⟨_, q2y (λ (r c : Nat) => a5 % 10), q0D (q0f (by rw [tq, n1])) (q0D (q0f (by rw [tq, n2])) (q2v (q0f (by rw [tq, q3]; rfl)) (q0n (q0j (g3 _) rfl) rfl) (q1b rfl)))⟩
    ·have n3 : (a4 % 8 == 3) = false := beq_eq_false_iff_ne.mpr q3
     exact ⟨_, z0m hw, q0D (q0f (by rw [tq, n1])) (q0D (q0f (by rw [tq, n2])) (q0D (q0f (by rw [tq, n3])) (q1b rfl)))⟩
 refine ⟨n, m, rows, by omega, n5, by omega, m5, Rr, ?_⟩
 rw [q0P (fd := q1l) rfl rfl]
 unfold q1l at tail ⊢
 simp only [List.drop_succ_cons, List.drop_zero] at tail
 exact q1B (q0n (q0j (d := .int mo) (cl := .strong) (q1f (cx := .fresh) (x := .lst [.int 4, .int 4, .int 4, .int 4, .int 4, .int 4, .int 4, .int 5]) rfl (q1i (h0 (q0a rfl)) q0e (by decide)) hmo) rfl)
  (q0n (q0j (d := .int n) (cl := .strong) (by rw [<- hn]; exact q4G q0e (q1i (h1 (q0a rfl)) (q0a rfl) mo0)) rfl) (q0n (q0j (d := .int m) (cl := .strong) (by rw [<- hm]; exact q4G q0e (q1i (h2 (q0a rfl)) (q0a rfl) mo0)) rfl)
  (q0n (q0j (d := .int tp) (cl := .strong) (q1f (cx := .fresh) (x := .lst [.int 2, .int 3, .int 10, .int 2]) rfl (q1i (h3 (q0a rfl)) q0e (by decide)) htop) rfl)
  (q0n (q4Z cm) (q4k (z7l em (by omega) hb3) (.inr rfl) l1 (q0n (q0j rt rfl) tail)))))))
end k34
end
section
namespace k34
open PySem L2
variable {fu k : Nat} {F : Nat -> List DV -> Option Ou} {δ : List Sv} {ds : List DV} {cl : Cl} {n m : Nat} {f : Nat -> Nat -> Int} {d : DV} {rows : List (List Int)}
theorem z2T {xs : List Int} {i : Int} {j : Nat} (h0 : 0 <= i + j) (h : i + j < xs.length) : ∃ v, ∀ {F : Nat -> List DV -> Option Ou} {δ : List Sv}, evE G F (.var 2) δ = some (.ok (.lst (xs.map DV.int)) .strong) -> evE G F (.var 4) δ = some (.ok (.int (j : Int)) .strong) -> evE G F (.ix (.var 2) (.bin .Add (.int i) (.var 4))) δ = some (.ok (.int v) .strong) := by
 obtain ⟨v, hv⟩ := z2m (l := xs) h0 h
 exact ⟨v, λ h1 h2 => q1f (cx := .strong) h1 (q4G q0e h2) hv⟩
theorem q1K (x : Int) {n : Nat} (hn : 0 < n) : ∃ a : Nat, x % (n : Int) = (a : Int) /\ a < n := by
 have q1 := Int.emod_nonneg x (b := (n : Int)) (by omega)
 have q2 := Int.emod_lt_of_pos x (b := (n : Int)) (by omega)
 exact ⟨(x % (n : Int)).toNat, by omega, by omega⟩
theorem z1E (R : Rect n m rows) (hn : 0 < n) (h : evE G F (.var 3) δ = some (.ok (rL rows) .strong)) : evE G F (.bi .len [.ix (.var 3) (.int 0)]) δ = some (.ok (.int (m : Int)) .strong) := by
 have r0 : 0 < rows.length := by rw [R.1]; exact hn
 have t := q1m (q1f (cx := .strong) h (q0e (i := ((0 : Nat) : Int))) (q3t (rows := rows) r0))
 rw [show (iD (rows.getD 0 [])).length = m by unfold iD; rw [List.length_map]; exact R.2 _ (q0U r0)] at t
 exact t
theorem z1y (R : Rect n m rows) (h : evE G F (.var 3) δ = some (.ok (rL rows) .strong)) : evE G F (.bi .len [.var 3]) δ = some (.ok (.int (n : Int)) .strong) := by
 have q := q1m (ds := rows.map λ r => .lst (iD r)) h
 rw [List.length_map, R.1] at q
 exact q
noncomputable abbrev S7 (s p : DV) (xs : List Int) (rows : List (List Int)) (j : Nat) (y z : Sv) : List Sv := [.val s, .val p, .val (.lst (xs.map DV.int)), .val (rL rows), .val (.int (j : Int)), y, z]
noncomputable def z0u : List MS := [.iff (.and [.cmp .Lt (.bi .len [.var 3]) (.int 8), .cmp .Eq (.bin .Mod (.ix (.var 2) (.bin .Add (.int 7) (.var 4))) (.int 2)) (.int 0)]) [.set 5 false (.bin .Mod (.ix (.var 2) (.bin .Add (.int 12) (.var 4))) (.bin .Add (.bi .len [.var 3]) (.int 1))), .set 3 false (.bin .Add (.bin .Add (.slt (.var 3) (.var 5)) (.lst [.ix (.var 3) (.bin .Mod (.ix (.var 2) (.bin .Add (.int 17) (.var 4))) (.bi .len [.var 3]))])) (.slf (.var 3) (.var 5)))] [.iff (.cmp .Lt (.bi .len [.ix (.var 3) (.int 0)]) (.int 8)) [.set 5 false (.bin .Mod (.ix (.var 2) (.bin .Add (.int 12) (.var 4))) (.bin .Add (.bi .len [.ix (.var 3) (.int 0)]) (.int 1))), .set 6 false (.bin .Mod (.ix (.var 2) (.bin .Add (.int 17) (.var 4))) (.bi .len [.ix (.var 3) (.int 0)])), .set 3 false (.comp (.bin .Add (.bin .Add (.slt (.var 0) (.var 1)) (.lst [.ix (.var 0) (.var 2)])) (.slf (.var 0) (.var 1))) (.one 0) (.var 3) [none, some 5, some 6])] []]]
theorem lst1 {e : ME} {d : DV} {c : Cl} (h : evE G F e δ = some (.ok d c)) (hs : stro d c = true) : evE G F (.lst [e]) δ = some (.ok (.lst [d]) .fresh) := q9S (q0b h q0g) (show 1 <= mostLen by decide) (by unfold stros; simp [hs])
theorem z4x {xs : List Int} (hx : xs.length = 24) {j : Nat} (hj : j < 5) {s p : DV} {z5 z6 : Sv} (t : Tb n m rows) : ∃ n' m' rows' z5' z6', Tb n' m' rows' /\ evSs G F fu z0u (S7 s p xs rows j z5 z6) = some (.nx [.val s, .val p, .val (.lst (xs.map DV.int)), .val (rL rows'), .val (.int (j : Int)), z5', z6']) := by
 obtain ⟨v7, h7⟩ := z2T (xs := xs) (i := 7) (j := j) (by omega) (by rw [hx]; omega)
 obtain ⟨v12, h12⟩ := z2T (xs := xs) (i := 12) (j := j) (by omega) (by rw [hx]; omega)
 obtain ⟨v17, h17⟩ := z2T (xs := xs) (i := 17) (j := j) (by omega) (by rw [hx]; omega)
 have ln : ∀ z5 z6, evE G F (.bi .len [.var 3]) (S7 s p xs rows j z5 z6) = some (.ok (.int (n : Int)) .strong) := λ z5 z6 => z1y t.R (q0a rfl)
 have lm : ∀ z5 z6, evE G F (.bi .len [.ix (.var 3) (.int 0)]) (S7 s p xs rows j z5 z6) = some (.ok (.int (m : Int)) .strong) := λ z5 z6 => z1E t.R t.n0 (q0a rfl)
 have q1 := b_lt (ln z5 z6) (q0e (i := 8))
 have q2 := b_eq (q1i (h7 (F := F) (δ := (S7 s p xs rows j z5 z6)) (q0a rfl) (q0a rfl)) (q0e (i := 2)) (by decide)) (q0e (i := 0))
 have q3 := b_lt (lm z5 z6) (q0e (i := 8))
 unfold z0u
 have tA : tstD (evE G F (.and [.cmp .Lt (.bi .len [.var 3]) (.int 8), .cmp .Eq (.bin .Mod (.ix (.var 2) (.bin .Add (.int 7) (.var 4))) (.int 2)) (.int 0)]) (S7 s p xs rows j z5 z6)) = some (.ok (decide ((n : Int) < 8) && (v7 % 2 == 0))) := by
  cases hd : decide ((n : Int) < 8) with
  | false => rw [hd] at q1; exact q0f (z6v q1)
  | true => rw [hd] at q1; exact q0f (z3C q1 (z3y q2))
 cases hA : decide ((n : Int) < 8) && (v7 % 2 == 0) with
 | true =>
  rw [hA] at tA
  rw [Bool.and_eq_true, decide_eq_true_iff] at hA
  obtain ⟨a, ha, hal⟩ := q1K v12 (n := n + 1) (by omega)
  obtain ⟨b, hb, hbl⟩ := q1K v17 t.n0
  have e5 : evE G F (.bin .Mod (.ix (.var 2) (.bin .Add (.int 12) (.var 4))) (.bin .Add (.bi .len [.var 3]) (.int 1))) (S7 s p xs rows j z5 z6) = some (.ok (.int (a : Int)) .strong) := by
   rw [<- ha]
   exact q1i (h12 (q0a rfl) (q0a rfl)) (add1 (ln z5 z6)) (by omega)
  have e3 : evE G F (.bin .Add (.bin .Add (.slt (.var 3) (.var 5)) (.lst [.ix (.var 3) (.bin .Mod (.ix (.var 2) (.bin .Add (.int 17) (.var 4))) (.bi .len [.var 3]))])) (.slf (.var 3) (.var 5))) (S7 s p xs rows j (.val (.int (a : Int))) z6) = some (.ok (rL (insR a b rows)) .fresh) := by
   have ei : evE G F (.ix (.var 3) (.bin .Mod (.ix (.var 2) (.bin .Add (.int 17) (.var 4))) (.bi .len [.var 3]))) (S7 s p xs rows j (.val (.int (a : Int))) z6) = some (.ok (.lst (iD (rows.getD b []))) .strong) := by
    refine q1f (cx := .strong) (y := .int (b : Int)) (cy := .strong) (q0a rfl) ?_ (q3t (by rw [t.R.1]; exact hbl))
    rw [<- hb]
    exact q1i (h17 (q0a rfl) (q0a rfl)) (ln _ z6) (by omega)
   have q := q6O (q6O (q9O (F := F) (δ := (S7 s p xs rows j (.val (.int (a : Int))) z6)) (a := .var 3) (b := .var 5) (c := .strong) (c1 := .strong) (ds := rows.map λ r => .lst (iD r)) (h := a) (q0a rfl) (q0a rfl)) (lst1 ei rfl) (by rw [List.length_take, List.length_map, t.R.1]; simp; have := t.n8; omega)) (z0R (F := F) (δ := (S7 s p xs rows j (.val (.int (a : Int))) z6)) (a := .var 3) (b := .var 5) (c := .strong) (c1 := .strong) (ds := rows.map λ r => .lst (iD r)) (h := a) (q0a rfl) (q0a rfl)) (by rw [List.length_append, List.length_take, List.length_drop, List.length_map, t.R.1]; simp; have := t.n8; omega)
   rw [q]
   unfold rL insR
   rw [List.map_append, List.map_append, List.map_take, List.map_drop]
   rfl
  exact ⟨_, _, _, _, _, t.row (a := a) (s := b) (by omega) (by omega) hbl, q2v tA (q0n (q0j e5 rfl) (q0n (q0j e3 rfl) rfl)) rfl⟩
 | false =>
  rw [hA] at tA
  cases hB : decide ((m : Int) < 8) with
  | false =>
   rw [hB] at q3
   exact ⟨n, m, rows, z5, z6, t, z0r tA (q0D (q0f q3) rfl) rfl⟩
  | true =>
   rw [hB] at q3
   rw [decide_eq_true_iff] at hB
   obtain ⟨a, ha, hal⟩ := q1K v12 (n := m + 1) (by omega)
   obtain ⟨b, hb, hbl⟩ := q1K v17 t.m0
   have e5 : evE G F (.bin .Mod (.ix (.var 2) (.bin .Add (.int 12) (.var 4))) (.bin .Add (.bi .len [.ix (.var 3) (.int 0)]) (.int 1))) (S7 s p xs rows j z5 z6) = some (.ok (.int (a : Int)) .strong) := by
    rw [<- ha]
    exact q1i (h12 (q0a rfl) (q0a rfl)) (add1 (lm z5 z6)) (by omega)
   have e6 : evE G F (.bin .Mod (.ix (.var 2) (.bin .Add (.int 17) (.var 4))) (.bi .len [.ix (.var 3) (.int 0)])) (S7 s p xs rows j (.val (.int (a : Int))) z6) = some (.ok (.int (b : Int)) .strong) := by
    rw [<- hb]
    exact q1i (h17 (q0a rfl) (q0a rfl)) (lm _ z6) (by omega)
   have e3 : evE G F (.comp (.bin .Add (.bin .Add (.slt (.var 0) (.var 1)) (.lst [.ix (.var 0) (.var 2)])) (.slf (.var 0) (.var 1))) (.one 0) (.var 3) [none, some 5, some 6]) (S7 s p xs rows j (.val (.int (a : Int))) (.val (.int (b : Int)))) = some (.ok (rL (rows.map (ins a b))) .fresh) := by
    have q := q0Y (F := F) (δ := (S7 s p xs rows j (.val (.int (a : Int))) (.val (.int (b : Int))))) (l := rows) (h := λ r => .lst (iD r)) (f := λ r => .lst (iD (ins a b r))) (elt := .bin .Add (.bin .Add (.slt (.var 0) (.var 1)) (.lst [.ix (.var 0) (.var 2)])) (.slf (.var 0) (.var 1))) (tg := .one 0) (it := .var 3) (fr := [none, some 5, some 6]) (cl := .strong) rfl (by decide) (by rw [t.R.1]; exact Nat.le_trans t.n8 (by decide)) λ r hr => by
     refine ⟨[.val (.lst (iD r)), .val (.int (a : Int)), .val (.int (b : Int))], .fresh, rfl, ?_, rfl⟩
     have hrl := t.R.2 r hr
     have idl : (iD r).length = m := by unfold iD; rw [List.length_map, hrl]
     have q := q6O (q6O (q9O (F := F) (δ := [.val (.lst (iD r)), .val (.int (a : Int)), .val (.int (b : Int))]) (a := .var 0) (b := .var 1) (c := .strong) (c1 := .strong) (ds := iD r) (h := a) (q0a rfl) (q0a rfl)) (lst1 (q1f (a := .var 0) (b := .var 2) (cx := .strong) (q0a rfl) (q0a rfl) (q5H (r := r) (j := b) (by rw [hrl]; exact hbl))) rfl) (by rw [List.length_take, idl]; simp; omega)) (z0R (F := F) (δ := [.val (.lst (iD r)), .val (.int (a : Int)), .val (.int (b : Int))]) (a := .var 0) (b := .var 1) (c := .strong) (c1 := .strong) (ds := iD r) (h := a) (q0a rfl) (q0a rfl)) (by rw [List.length_append, List.length_take, List.length_drop, idl]; simp; omega)
     rw [q]
     unfold ins iD
     rw [List.map_append, List.map_append, List.map_take, List.map_drop]
     rfl
    rw [q]
    unfold rL
    rw [List.map_map]
    rfl
   exact ⟨_, _, _, _, _, t.colm (a := a) (s := b) (by omega) (by omega) hbl, z0r tA (q2v (q0f q3) (q0n (q0j e5 rfl) (q0n (q0j e6 rfl) (q0n (q0j e3 rfl) rfl))) rfl) rfl⟩
theorem q9j {e : ME} (hl : rows.length <= 8) (h : q0L (evE G F e δ) = some (.ok (rows.map λ r => .lst (iD r)) .strong)) : evE G F (.bi .tuple [.comp (.bi .tuple [.var 0]) (.one 0) e [none]]) δ = some (.ok (tT rows) .strong) :=
 q3e (c := .fresh) (q0Y (l := rows) (h := λ r => .lst (iD r)) (f := λ r => .tup (iD r)) h (by decide) (Nat.le_trans hl (by decide)) λ r hr => ⟨[.val (.lst (iD r))], .strong, rfl, rfl, rfl⟩)
theorem z1K (ns : List Int) (hns : ns.length <= 63) : ∃ (n m : Nat) (rows : List (List Int)), Tb n m rows /\ run G T fu (k + 3) 14 [.scr ns, .int 2] = some (.v (tT rows) false) := by
 obtain ⟨v0, c0⟩ := q7U (fu := fu) (k := k + 1) ns 0
 obtain ⟨xs, hx, st⟩ := q5E (fu := fu) (k := k + 1) v0 24 (by decide)
 obtain ⟨n, m, rows, n0, n5, m0, m5, R, co⟩ := z4T (fu := fu) (k := k) ns hns xs hx
 have t0 : Tb n m rows := ⟨n0, by omega, m0, by omega, R, z0q (by rw [R.1]; exact n5), z0q (by rw [q1p]; exact m5)⟩
 obtain ⟨a6, h6⟩ := q3X (xs := xs) (i := 6) (by omega) (by rw [hx]; omega)
 obtain ⟨tn, htn, ht5⟩ := q1K a6 (n := 5) (by decide)
 obtain ⟨δ', lp, n', m', rows', z4, z5, z6, t', rfl⟩ := q1M (i := 4) (I := λ _ δ => ∃ n m rows z4 z5 z6, Tb n m rows /\ δ = [.val (.scr ns), .val (.int 2), .val (.lst (xs.map DV.int)), .val (rL rows), z4, z5, z6])
  (body := λ δ' => evSs G (run G T fu (k + 2)) fu z0u δ') tn 0 (δ := [.val (.scr ns), .val (.int 2), .val (.lst (xs.map DV.int)), .val (rL rows), .no, .no, .no])
  (λ j hj δ I => by
   obtain ⟨n, m, rows, z4, z5, z6, t, rfl⟩ := I
   rw [show (0 : Int) + (j : Int) = j by omega]
   obtain ⟨n', m', rows', z5', z6', t', e⟩ := z4x (F := run G T fu (k + 2)) (fu := fu) hx (j := j) (by omega) (s := .scr ns) (p := .int 2) (z5 := z5) (z6 := z6) t
   exact ⟨_, e, n', m', rows', _, z5', z6', t', rfl⟩) ⟨n, m, rows, .no, .no, .no, t0, rfl⟩
 refine ⟨n', m', rows', t', ?_⟩
 rw [q0P (fd := q1O) rfl rfl]
 unfold q1O
 have w : evE G (run G T fu (k + 2)) (.bin .Mod (.ix (.var 2) (.int 6)) (.int 5)) [.val (.scr ns), .val (.int 2), .val (.lst (xs.map DV.int)), .val (rL rows), .no, .no, .no] = some (.ok (.int (tn : Int)) .strong) := by
  rw [<- htn]
  exact q1i (h6 (q0a rfl)) q0e (by decide)
 exact q1B (q0n (q0j (q0h (fr := true) (q0b (q0h (fr := false) (q0b (q0a rfl) (q0b q0e q0g)) rfl c0) (q0b q0e q0g)) rfl st) rfl)
  (q0n (q0j (q0h (fr := false) (q0b (q0a rfl) (q0b (q0a rfl) (q0b (q0a rfl) q0g))) rfl co) rfl) (q4k (q5N w (by omega)) (.inr rfl) lp (q1b (q1d (cl := .strong) (q9j (by rw [t'.R.1]; exact t'.n8) rfl))))))
end k34
end
section
namespace k34
open PySem L2
variable {fu k : Nat} {F : Nat -> List DV -> Option Ou} {δ : List Sv} {ds : List DV} {cl : Cl} {n m : Nat} {f : Nat -> Nat -> Int} {d : DV} {rows : List (List Int)}
theorem z8e {a b : ME} {i j : Int} {cx cy : Cl} (ha : evE G F a δ = some (.ok (.int i) cx)) (hb : evE G F b δ = some (.ok (.int j) cy)) (hj : 0 <= j) : evE G F (.bin .RShift a b) δ = some (.ok (.int (i / 2 ^ j.toNat)) .strong) :=
 q4o ha hb (show (if 0 <= j then some (Re.ok (.int (i / 2 ^ j.toNat)) .strong) else none) = _ from if_pos hj)
noncomputable def shl (n : Nat) : List (List Int) := (List.range n).map λ (r : Nat) => (List.range 3).map λ (c : Nat) => (r : Int) / 2 ^ (c : Int).toNat % 2
noncomputable def idn (n : Nat) : List (List Int) := (List.range n).map λ (r : Nat) => (List.range n).map λ (c : Nat) => if ((r : Int) == (c : Int)) then (1 : Int) else 0
theorem q8W : ∀ N ∈ [6, 7, 8], (sm (FI (shl N)).length (FI (flip 3 (shl N))).length = false /\ sm (FI (idn N)).length (FI (flip N (idn N))).length = false) /\ (sm (FI (flip 3 (shl N))).length (FI (flip N (flip 3 (shl N)))).length = false /\ sm (FI (flip N (idn N))).length (FI (flip N (flip N (idn N)))).length = false) := by decide +kernel
theorem z3k (c : Int) : ∃ (n m : Nat) (rows : List (List Int)), 3 <= n /\ n <= 8 /\ 3 <= m /\ m <= 8 /\ Rect n m rows /\ sm (FI rows).length (FI (flip m rows)).length = false /\ run G T fu (k + 1) 16 [.int c] = some (.v (tT rows) false) := by
 obtain ⟨N, hN, hN6, hN8⟩ : ∃ N : Nat, 6 + c % 3 = (N : Int) /\ 6 <= N /\ N <= 8 := ⟨(6 + c % 3).toNat, by omega, by omega, by omega⟩
 have gb := q8W N (by
  have : N = 6 \/ N = 7 \/ N = 8 := by omega
  rcases this with h | h | h <;> rw [h] <;> decide)
 have s2 : evE G (run G T fu k) (.comp (.comp (.bin .Mod (.bin .RShift (.var 1) (.var 0)) (.int 2)) (.one 0) (.rng [.int 3]) [none, some 0]) (.one 0) (.rng [.var 1]) [none]) [.val (.int c), .val (.int (N : Int)), .no] = some (.ok (rL (shl N)) .fresh) :=
  z0L (n := N) (m := 3) (g := λ (r c : Nat) => (r : Int) / 2 ^ (c : Int).toNat % 2) (q0a rfl) hN8 (by decide) λ r hr => ⟨[.val (.int (r : Int))], rfl, rfl, λ c hc => ⟨[.val (.int (c : Int)), .val (.int (r : Int))], rfl, q1i (z8e (q0a rfl) (q0a rfl) (Int.natCast_nonneg c)) q0e (by decide)⟩⟩
 have s3 : ∀ v, evE G (run G T fu k) (.comp (.comp (.bi .int [.cmp .Eq (.var 1) (.var 0)]) (.one 0) (.rng [.var 1]) [none, some 0]) (.one 0) (.rng [.var 1]) [none, some 1]) [.val (.int c), .val (.int (N : Int)), .val v] = some (.ok (rL (idn N)) .fresh) := λ v =>
  z0L (n := N) (m := N) (g := λ (r c : Nat) => if ((r : Int) == (c : Int)) then (1 : Int) else 0) (q0a rfl) hN8 hN8 λ r hr => ⟨[.val (.int (r : Int)), .val (.int (N : Int))], rfl, q0a rfl, λ c hc => ⟨[.val (.int (c : Int)), .val (.int (r : Int))], rfl, q7m (b_eq (q0a rfl) (q0a rfl))⟩⟩
 have t1 : ∀ v, evE G (run G T fu k) (.cmp .Eq (.bin .Mod (.bin .FloorDiv (.var 0) (.int 3)) (.int 2)) (.int 0)) [.val (.int c), .val (.int (N : Int)), .val v] = some (.ok (.bl (c / 3 % 2 == 0)) .strong) := λ v => b_eq (q1i (z0a (q0a rfl) q0e (by decide)) q0e (by decide)) q0e
 have t2 : ∀ v, evE G (run G T fu k) (.cmp .Eq (.bin .Mod (.bin .FloorDiv (.var 0) (.int 6)) (.int 2)) (.int 1)) [.val (.int c), .val (.int (N : Int)), .val v] = some (.ok (.bl (c / 6 % 2 == 1)) .strong) := λ v => b_eq (q1i (z0a (q0a rfl) q0e (by decide)) q0e (by decide)) q0e
 have e1 : evE G (run G T fu k) (.bin .Add (.int 6) (.bin .Mod (.var 0) (.int 3))) (q0q 3 [.int c]) = some (.ok (.int (N : Int)) .strong) := by rw [<- hN]; exact q4G q0e (q1i (q0a rfl) q0e (by decide))
 have tail : ∀ (n m : Nat) (rows : List (List Int)), 3 <= n -> n <= 8 -> 3 <= m -> m <= 8 -> Rect n m rows -> sm (FI rows).length (FI (flip m rows)).length = false -> sm (FI (flip m rows)).length (FI (flip n (flip m rows))).length = false ->
   ∃ (n' m' : Nat) (rows' : List (List Int)), 3 <= n' /\ n' <= 8 /\ 3 <= m' /\ m' <= 8 /\ Rect n' m' rows' /\ sm (FI rows').length (FI (flip m' rows')).length = false /\ evSs G (run G T fu k) fu (q0H.body.drop 3) [.val (.int c), .val (.int (N : Int)), .val (rL rows)] = some (.rt (tT rows') false) := λ n m rows a1 a2 a3 a4 R b1 b2 => by
  unfold q0H
  simp only [List.drop_succ_cons, List.drop_zero]
  have q := t2 (rL rows)
  cases h : c / 6 % 2 == 1 with
  | true =>
   rw [h] at q
   have R' := q2A R
   exact ⟨m, n, flip m rows, a3, a4, a1, a2, R', b2, q2v (q0f q) (q0n (q0j (z0w 2 rows n m R (by omega) a2 a4 rfl) rfl) rfl) (q1b (q1d (cl := .strong) (q9j (by rw [R'.1]; exact a4) rfl)))⟩
  | false =>
   rw [h] at q
   exact ⟨n, m, rows, a1, a2, a3, a4, R, b1, q0D (q0f q) (q1b (q1d (cl := .strong) (q9j (by rw [R.1]; exact a2) rfl)))⟩
 unfold q0H at tail
 simp only [List.drop_succ_cons, List.drop_zero] at tail
 have q := t1 (rL (shl N))
 cases h : c / 3 % 2 == 0 with
 | true =>
  rw [h] at q
  obtain ⟨n, m, rows, a1, a2, a3, a4, R, b, e⟩ := tail N N (idn N) (by omega) hN8 (by omega) hN8 (q2y _) gb.1.2 gb.2.2
  refine ⟨n, m, rows, a1, a2, a3, a4, R, b, ?_⟩
  rw [q0P (fd := q0H) rfl rfl]
  unfold q0H
  exact q1B (q0n (q0j e1 rfl) (q0n (q0j s2 rfl) (q2v (q0f q) (q0n (q0j (s3 _) rfl) rfl) e)))
 | false =>
  rw [h] at q
  obtain ⟨n, m, rows, a1, a2, a3, a4, R, b, e⟩ := tail N 3 (shl N) (by omega) hN8 (by omega) (by omega) (q2y _) gb.1.1 gb.2.1
  refine ⟨n, m, rows, a1, a2, a3, a4, R, b, ?_⟩
  rw [q0P (fd := q0H) rfl rfl]
  unfold q0H
  exact q1B (q0n (q0j e1 rfl) (q0n (q0j s2 rfl) (q0D (q0f q) e)))
theorem ne_b (b : Bool) : cmpD .NotEq (.bl b) (.bl b) = some false := by cases b <;> rfl
theorem lenT {e : ME} (R : Rect n m rows) (h : evE G F e δ = some (.ok (tT rows) .strong)) : evE G F (.bi .len [e]) δ = some (.ok (.int (n : Int)) .strong) := by
 have q := q2p (ds := rows.map λ r => .tup (iD r)) h
 rw [List.length_map, R.1] at q
 exact q
theorem z4S {e : ME} (R : Rect n m rows) (hn : 0 < n) (h : evE G F e δ = some (.ok (tT rows) .strong)) : evE G F (.bi .len [.ix e (.int 0)]) δ = some (.ok (.int (m : Int)) .strong) := by
 have r0 : 0 < rows.length := by rw [R.1]; exact hn
 have t := q2p (q1f (cx := .strong) h (q0e (i := ((0 : Nat) : Int))) (q3R (rows := rows) r0))
 rw [show (iD (rows.getD 0 [])).length = m by unfold iD; rw [List.length_map]; exact R.2 _ (q0U r0)] at t
 exact t
theorem q3q {a b : ME} {i j : Nat} (ha : evE G F a δ = some (.ok (.int (i : Int)) .strong)) (hb : evE G F b δ = some (.ok (.int (j : Int)) .strong)) : evE G F (.tup [a, b]) δ = some (.ok (pD (i, j)) .strong) := z2j (q0b ha (q0b hb q0g)) (show 2 <= mostLen by decide) rfl
noncomputable def q9i : List MS := [.set 3 false (.call 12 [.var 2, .int 5]), .set 4 false (.tup [.bin .Mod (.ix (.var 3) (.int 0)) (.bi .len [.var 1]), .bin .Mod (.ix (.var 3) (.int 1)) (.bi .len [.ix (.var 1) (.int 0)])]), .set 5 false (.tup [.bin .Mod (.ix (.var 3) (.int 2)) (.bi .len [.var 1]), .bin .Mod (.ix (.var 3) (.int 3)) (.bi .len [.ix (.var 1) (.int 0)])]), .iff (.cmp .Eq (.bin .Mod (.ix (.var 3) (.int 4)) (.int 5)) (.int 0)) [.set 5 false (.tup [.ix (.var 4) (.int 0), .bin .Mod (.ix (.var 3) (.int 3)) (.bi .len [.ix (.var 1) (.int 0)])])] [], .iff (.cmp .Eq (.bin .Mod (.ix (.var 3) (.int 4)) (.int 5)) (.int 1)) [.set 5 false (.tup [.bin .Mod (.ix (.var 3) (.int 2)) (.bi .len [.var 1]), .ix (.var 4) (.int 1)])] [], .set 6 false (.call 9 [.var 1, .var 4, .var 5]), .iff (.or [.not (.isi (.var 6) ["bool"]), .cmp .NotEq (.var 6) (.call 18 [.var 1, .var 4, .var 5])]) [.ret (.bl false)] []]
theorem z2W {s : DV} {x : Int} {z3 z4 z5 z6 : Sv} (t : Tb n m rows) : ∃ z3' z4' z5' z6', evSs G (run G T fu (k + 1)) fu q9i [.val s, .val (tT rows), .val (.int x), z3, z4, z5, z6, .no, .no, .no, .no, .no] = some (.nx [.val s, .val (tT rows), .val (.int x), z3', z4', z5', z6', .no, .no, .no, .no, .no]) := by
 obtain ⟨xs, hx, st⟩ := q5E (fu := fu) (k := k) x 5 (by decide)
 obtain ⟨a0, h0⟩ := q3X (xs := xs) (i := 0) (by omega) (by rw [hx]; omega)
 obtain ⟨a1, h1⟩ := q3X (xs := xs) (i := 1) (by omega) (by rw [hx]; omega)
 obtain ⟨a2, h2⟩ := q3X (xs := xs) (i := 2) (by omega) (by rw [hx]; omega)
 obtain ⟨a3, h3⟩ := q3X (xs := xs) (i := 3) (by omega) (by rw [hx]; omega)
 obtain ⟨a4, h4⟩ := q3X (xs := xs) (i := 4) (by omega) (by rw [hx]; omega)
 obtain ⟨p1, e1, l1⟩ := q1K a0 t.n0
 obtain ⟨p2, e2, l2⟩ := q1K a1 t.m0
 obtain ⟨q1, e3, l3⟩ := q1K a2 t.n0
 obtain ⟨q2, e4, l4⟩ := q1K a3 t.m0
 let D : Sv -> Sv -> Sv -> List Sv := λ z4 z5 z6 => [.val s, .val (tT rows), .val (.int x), .val (.lst (xs.map DV.int)), z4, z5, z6, .no, .no, .no, .no, .no]
 have ln : ∀ z4 z5 z6, evE G (run G T fu (k + 1)) (.bi .len [.var 1]) (D z4 z5 z6) = some (.ok (.int (n : Int)) .strong) := λ _ _ _ => lenT t.R (q0a rfl)
 have lm : ∀ z4 z5 z6, evE G (run G T fu (k + 1)) (.bi .len [.ix (.var 1) (.int 0)]) (D z4 z5 z6) = some (.ok (.int (m : Int)) .strong) := λ _ _ _ => z4S t.R t.n0 (q0a rfl)
 have m0 : ∀ z4 z5 z6, evE G (run G T fu (k + 1)) (.bin .Mod (.ix (.var 3) (.int 0)) (.bi .len [.var 1])) (D z4 z5 z6) = some (.ok (.int (p1 : Int)) .strong) := λ z4 z5 z6 => by rw [<- e1]; exact q1i (h0 (q0a rfl)) (ln z4 z5 z6) (by have := t.n0; omega)
 have m1 : ∀ z4 z5 z6, evE G (run G T fu (k + 1)) (.bin .Mod (.ix (.var 3) (.int 1)) (.bi .len [.ix (.var 1) (.int 0)])) (D z4 z5 z6) = some (.ok (.int (p2 : Int)) .strong) := λ z4 z5 z6 => by rw [<- e2]; exact q1i (h1 (q0a rfl)) (lm z4 z5 z6) (by have := t.m0; omega)
 have m2 : ∀ z4 z5 z6, evE G (run G T fu (k + 1)) (.bin .Mod (.ix (.var 3) (.int 2)) (.bi .len [.var 1])) (D z4 z5 z6) = some (.ok (.int (q1 : Int)) .strong) := λ z4 z5 z6 => by rw [<- e3]; exact q1i (h2 (q0a rfl)) (ln z4 z5 z6) (by have := t.n0; omega)
 have m3 : ∀ z4 z5 z6, evE G (run G T fu (k + 1)) (.bin .Mod (.ix (.var 3) (.int 3)) (.bi .len [.ix (.var 1) (.int 0)])) (D z4 z5 z6) = some (.ok (.int (q2 : Int)) .strong) := λ z4 z5 z6 => by rw [<- e4]; exact q1i (h3 (q0a rfl)) (lm z4 z5 z6) (by have := t.m0; omega)
 have tq : ∀ (z4 z5 z6 : Sv) (j : Int), evE G (run G T fu (k + 1)) (.cmp .Eq (.bin .Mod (.ix (.var 3) (.int 4)) (.int 5)) (.int j)) (D z4 z5 z6) = some (.ok (.bl (a4 % 5 == j)) .strong) := λ z4 z5 z6 j => b_eq (q1i (h4 (q0a rfl)) q0e (by decide)) q0e
 have L := q5U t.R
 have fin : ∀ (p q : En) (z6 : Sv), p.1 < n -> p.2 < m -> q.1 < n -> q.2 < m -> evSs G (run G T fu (k + 1)) fu [.set 6 false (.call 9 [.var 1, .var 4, .var 5]), .iff (.or [.not (.isi (.var 6) ["bool"]), .cmp .NotEq (.var 6) (.call 18 [.var 1, .var 4, .var 5])]) [.ret (.bl false)] []] (D (.val (pD p)) (.val (pD q)) z6) = some (.nx (D (.val (pD p)) (.val (pD q)) (.val (.bl (kp (at2 rows) p q))))) := λ p q z6 a b c e => by
  refine q0n (q0j (q0h (fr := false) (l := [(tT rows, .strong), (pD p, .strong), (pD q, .strong)]) rfl rfl (z0x (fu := fu) (k := k) L a b c e)) rfl) (q0D (q0f (cl := .strong) (q7g (q3L (x := true) (cl := .strong) rfl) (q1Q (q0a rfl) (q0h (fr := false) (l := [(tT rows, .strong), (pD p, .strong), (pD q, .strong)]) rfl rfl (q5u (fu := fu) (k := k) L a b c e)) (ne_b _)))) rfl)
 unfold q9i
 have s3 : evE G (run G T fu (k + 1)) (.call 12 [.var 2, .int 5]) [.val s, .val (tT rows), .val (.int x), z3, z4, z5, z6, .no, .no, .no, .no, .no] = some (.ok (.lst (xs.map DV.int)) .fresh) := q0h (fr := true) (q0b (q0a rfl) (q0b q0e q0g)) rfl st
 have s4 : evE G (run G T fu (k + 1)) (.tup [.bin .Mod (.ix (.var 3) (.int 0)) (.bi .len [.var 1]), .bin .Mod (.ix (.var 3) (.int 1)) (.bi .len [.ix (.var 1) (.int 0)])]) (D z4 z5 z6) = some (.ok (pD (p1, p2)) .strong) := q3q (m0 _ _ _) (m1 _ _ _)
 have s5 : evE G (run G T fu (k + 1)) (.tup [.bin .Mod (.ix (.var 3) (.int 2)) (.bi .len [.var 1]), .bin .Mod (.ix (.var 3) (.int 3)) (.bi .len [.ix (.var 1) (.int 0)])]) (D (.val (pD (p1, p2))) z5 z6) = some (.ok (pD (q1, q2)) .strong) := q3q (m2 _ _ _) (m3 _ _ _)
 by_cases c0 : a4 % 5 = 0
 ·have s6 : evE G (run G T fu (k + 1)) (.tup [.ix (.var 4) (.int 0), .bin .Mod (.ix (.var 3) (.int 3)) (.bi .len [.ix (.var 1) (.int 0)])]) (D (.val (pD (p1, p2))) (.val (pD (q1, q2))) z6) = some (.ok (pD (p1, q2)) .strong) := q3q (q4M (p := (p1, p2)) (q0a rfl)) (m3 _ _ _)
  have u0 := tq (.val (pD (p1, p2))) (.val (pD (q1, q2))) z6 0
  have u1 := tq (.val (pD (p1, p2))) (.val (pD (p1, q2))) z6 1
  rw [c0] at u0 u1
  exact ⟨_, _, _, _, q0n (q0j s3 rfl) (q0n (q0j s4 rfl) (q0n (q0j s5 rfl) (q2v (q0f u0) (q0n (q0j s6 rfl) rfl) (q0D (q0f u1) (fin (p1, p2) (p1, q2) z6 l1 l2 l1 l4)))))⟩
 ·have n0 : (a4 % 5 == 0) = false := beq_eq_false_iff_ne.mpr c0
  have u0 := tq (.val (pD (p1, p2))) (.val (pD (q1, q2))) z6 0
  have u1 := tq (.val (pD (p1, p2))) (.val (pD (q1, q2))) z6 1
  rw [n0] at u0
  by_cases c1 : a4 % 5 = 1
  ·rw [c1] at u1
   have s6 : evE G (run G T fu (k + 1)) (.tup [.bin .Mod (.ix (.var 3) (.int 2)) (.bi .len [.var 1]), .ix (.var 4) (.int 1)]) (D (.val (pD (p1, p2))) (.val (pD (q1, q2))) z6) = some (.ok (pD (q1, p2)) .strong) := q3q (m2 _ _ _) (q4K (p := (p1, p2)) (q0a rfl))
   exact ⟨_, _, _, _, q0n (q0j s3 rfl) (q0n (q0j s4 rfl) (q0n (q0j s5 rfl) (q0D (q0f u0) (q2v (q0f u1) (q0n (q0j s6 rfl) rfl) (fin (p1, p2) (q1, p2) z6 l1 l2 l3 l2)))))⟩
  ·rw [beq_eq_false_iff_ne.mpr c1] at u1
   exact ⟨_, _, _, _, q0n (q0j s3 rfl) (q0n (q0j s4 rfl) (q0n (q0j s5 rfl) (q0D (q0f u0) (q0D (q0f u1) (fin (p1, p2) (q1, q2) z6 l1 l2 l3 l4)))))⟩
end k34
end
section
namespace k34
open PySem L2
variable {fu k : Nat} {F : Nat -> List DV -> Option Ou} {δ : List Sv} {ds : List DV} {cl : Cl} {n m : Nat} {f : Nat -> Nat -> Int} {d : DV} {rows : List (List Int)}
theorem z5C (ds : List DV) (lo hi : Option Int) : (cutD ds lo hi).length <= ds.length := by
 unfold cutD
 rw [List.length_take, List.length_drop]
 omega
theorem z4C {ds : List DV} {lo hi : Option Int} {d : DV} (h : d ∈ cutD ds lo hi) : d ∈ ds := by
 unfold cutD at h
 exact List.mem_of_mem_drop (List.mem_of_mem_take h)
noncomputable abbrev Sl (s : DV) (rows : List (List Int)) (w : Int) (z2 z3 z4 z5 z6 z7 z8 y : Sv) : List Sv := [.val s, .val (tT rows), z2, z3, z4, z5, z6, z7, z8, .val (.int w), y, .no]
noncomputable def q9o : List MS := [.set 6 true (.call 7 [.var 1, .var 9]), .iff (.not (.call 20 [.var 6, .var 1, .var 9])) [.ret (.bl false)] [], .set 10 false (.bi .list [.var 6]), .app 6 (.int 0), .iff (.cmp .NotEq (.call 7 [.var 1, .var 9]) (.var 10)) [.ret (.bl false)] []]
theorem z2a (t : Tb n m rows) (w : Int) : (tell rows m w).length <= 25 := by
 have sb := (q4R (kp (at2 rows)) _ (q2o (at2 rows) w (FI (flip m rows)) (FI rows)) (Nat.le_refl _)).length_le
 have ll := q4h (at2 rows) w (FI (flip m rows)) (FI rows)
 have s25 : (FI rows).length * (FI (flip m rows)).length <= 25 := Nat.mul_le_mul (q7P t.fr) (q7P t.fc)
 unfold tell
 omega
theorem z3h {s : DV} {w : Int} {z2 z3 z4 z5 z6 z7 z8 z10 : Sv} (t : Tb n m rows) : ∃ z6' z10', evSs G (run G T fu (k + 40)) fu q9o (Sl s rows w z2 z3 z4 z5 z6 z7 z8 z10) = some (.nx (Sl s rows w z2 z3 z4 z5 z6' z7 z8 z10')) := by
 have ea := z4d (fu := fu) (k := k) t.R t.n0 t.n8 t.m8 t.sm w
 have eg := z5W (fu := fu) (k := k + 28) t.R t.n0 t.n8 t.m8 t.sm w
 have hl := z2a t w
 let l := tell rows m w
 have s6 : evE G (run G T fu (k + 40)) (.call 7 [.var 1, .var 9]) (Sl s rows w z2 z3 z4 z5 z6 z7 z8 z10) = some (.ok (.lst (l.map pD)) .fresh) := q0h (fr := true) (q0b (q0a rfl) (q0b (q0a rfl) q0g)) rfl ea
 have t1 : evE G (run G T fu (k + 40)) (.not (.call 20 [.var 6, .var 1, .var 9])) (Sl s rows w z2 z3 z4 z5 (.own (.lst (l.map pD))) z7 z8 z10) = some (.ok (.bl false) .strong) :=
  q3L (x := true) (z1c (fr := false) (l := [(.lst (l.map pD), .top), (tT rows, .strong), (.int w, .strong)]) (q0b (q3J rfl) (q0b (q0a rfl) (q0b (q0a rfl) q0g))) rfl eg)
 have s10 : evE G (run G T fu (k + 40)) (.bi .list [.var 6]) (Sl s rows w z2 z3 z4 z5 (.own (.lst (l.map pD))) z7 z8 z10) = some (.ok (.lst (l.map pD)) .fresh) := rfl
 have ap : evS G (run G T fu (k + 40)) fu (.app 6 (.int 0)) (Sl s rows w z2 z3 z4 z5 (.own (.lst (l.map pD))) z7 z8 (.val (.lst (l.map pD)))) = some (.nx (Sl s rows w z2 z3 z4 z5 (.own (.lst (l.map pD ++ [.int 0]))) z7 z8 (.val (.lst (l.map pD))))) :=
  z2E (ds := l.map pD) (d := .int 0) (cl := .strong) rfl rfl rfl (by rw [List.length_map]; exact Nat.lt_of_le_of_lt hl (by decide))
 have t2 : evE G (run G T fu (k + 40)) (.cmp .NotEq (.call 7 [.var 1, .var 9]) (.var 10)) (Sl s rows w z2 z3 z4 z5 (.own (.lst (l.map pD ++ [.int 0]))) z7 z8 (.val (.lst (l.map pD)))) = some (.ok (.bl false) .strong) :=
  q1Q (q0h (fr := true) (q0b (q0a rfl) (q0b (q0a rfl) q0g)) rfl ea) (q0a rfl) (q9Z l)
 unfold q9o
 exact ⟨_, _, q0n (q4Z s6) (q0D (q0f t1) (q0n (q0j s10 rfl) (q0n ap (q0D (q0f t2) rfl))))⟩
noncomputable def z5g : List MS := [.iff (.cmp .NotEq (.call 9 [.var 11, .var 4, .var 5]) (.call 18 [.var 11, .var 4, .var 5])) [.ret (.bl false)] []]
theorem z3e (ns : List Int) (hns : ns.length <= 63) : run G T 100 60 21 [.scr ns] = some (.v (.bl true) false) := by
 obtain ⟨n, m, rows, t, et⟩ := z1K (fu := 100) (k := 56) ns hns
 obtain ⟨v0, c0⟩ := q7U (fu := 100) (k := 58) ns 0
 obtain ⟨v1, c1⟩ := q7U (fu := 100) (k := 58) ns 1
 obtain ⟨gn, gm, gr, g1, g2, g3, g4, gR, gs, eg⟩ := z3k (fu := 100) (k := 58) v1
 rw [q0P (fd := z1n) rfl rfl]
 unfold z1n
 let L0 : List Sv := [.val (.scr ns), .val (tT rows), .no, .no, .no, .no, .no, .no, .no, .no, .no, .no]
 have s1 : evE G (run G T 100 59) (.call 14 [.var 0, .int 2]) (q0q 12 [.scr ns]) = some (.ok (tT rows) .strong) := q0h (fr := false) (q0b (q0a rfl) (q0b q0e q0g)) rfl et
 let ds1 : List DV := [.int v0] ++ cutD (ns.map DV.int) (some 1) (some 21)
 have w1 : evE G (run G T 100 59) (.bin .Add (.lst [.call 11 [.var 0, .int 0]]) (.sl (.var 0) (.int 1) (.int 21))) L0 = some (.ok (.lst ds1) .fresh) := by
  have a1 : evE G (run G T 100 59) (.lst [.call 11 [.var 0, .int 0]]) L0 = some (.ok (.lst [.int v0]) .fresh) := lst1 (q0h (fr := false) (q0b (q0a rfl) (q0b q0e q0g)) rfl c0) rfl
  have a2 : evE G (run G T 100 59) (.sl (.var 0) (.int 1) (.int 21)) L0 = some (.ok (.lst (cutD (ns.map DV.int) (some 1) (some 21))) .fresh) := rfl
  exact q6O (cx := .fresh) (cy := .fresh) a1 a2 (by have := z5C (ns.map DV.int) (some 1) (some 21); rw [List.length_map] at this; simp only [List.length_singleton]; omega)
 have w1' : q0L (evE G (run G T 100 59) (.bin .Add (.lst [.call 11 [.var 0, .int 0]]) (.sl (.var 0) (.int 1) (.int 21))) L0) = some (.ok ds1 .fresh) := by rw [w1]; rfl
 obtain ⟨δ1, lp1, z2, z3, z4, z5, z6, rfl⟩ := q2B (tg := .one 2) (I := λ δ => ∃ z2 z3 z4 z5 z6 : Sv, δ = [.val (.scr ns), .val (tT rows), z2, z3, z4, z5, z6, .no, .no, .no, .no, .no]) (body := λ δ' => evSs G (run G T 100 59) 100 q9i δ') (ds := ds1) (δ := L0)
  (λ d hd δ I => by
   obtain ⟨z2, z3, z4, z5, z6, rfl⟩ := I
   obtain ⟨x, rfl⟩ : ∃ x : Int, d = .int x := by
    rcases List.mem_append.mp hd with q | q
    ·exact ⟨v0, List.mem_singleton.mp q⟩
    ·obtain ⟨x, _, e⟩ := List.mem_map.mp (z4C q)
     exact ⟨x, e.symm⟩
   obtain ⟨z3', z4', z5', z6', e⟩ := z2W (fu := 100) (k := 58) (s := .scr ns) (x := x) (z3 := z3) (z4 := z4) (z5 := z5) (z6 := z6) t
   exact ⟨_, _, rfl, e, _, z3', z4', z5', z6', rfl⟩) ⟨.no, .no, .no, .no, .no, rfl⟩
 let L1 : Sv -> Sv -> Sv -> Sv -> List Sv := λ z7 z8 z9 z10 => [.val (.scr ns), .val (tT rows), z2, z3, z4, z5, z6, z7, z8, z9, z10, .no]
 obtain ⟨a, ea, la⟩ := q1K (v0 / 7) t.n0
 obtain ⟨b, eb, lb⟩ := q1K (v1 / 7) t.m0
 have s7 : evE G (run G T 100 59) (.ix (.var 1) (.bin .Mod (.bin .FloorDiv (.call 11 [.var 0, .int 0]) (.int 7)) (.bi .len [.var 1]))) (L1 .no .no .no .no) = some (.ok (.tup (iD (rows.getD a []))) .strong) := by
  refine q1f (cx := .strong) (y := .int (a : Int)) (cy := .strong) (q0a rfl) ?_ (q3R (by rw [t.R.1]; exact la))
  rw [<- ea]
  exact q1i (z0a (q0h (fr := false) (q0b (q0a rfl) (q0b q0e q0g)) rfl c0) q0e (by decide)) (lenT t.R (q0a rfl)) (by have := t.n0; omega)
 have rl : (rows.getD a []).length = m := q7q t.R la
 have s8 : evE G (run G T 100 59) (.ix (.var 7) (.bin .Mod (.bin .FloorDiv (.call 11 [.var 0, .int 1]) (.int 7)) (.bi .len [.var 7]))) (L1 (.val (.tup (iD (rows.getD a [])))) .no .no .no) = some (.ok (.int (at2 rows a b)) .strong) := by
  refine q1f (cx := .strong) (y := .int (b : Int)) (cy := .strong) (q0a rfl) ?_ (q5f (by rw [rl]; exact lb))
  rw [<- eb]
  have q := q2p (F := run G T 100 59) (δ := L1 (.val (.tup (iD (rows.getD a [])))) .no .no .no) (e := .var 7) (ds := iD (rows.getD a [])) (c := .strong) rfl
  rw [show (iD (rows.getD a [])).length = m by unfold iD; rw [List.length_map, rl]] at q
  exact q1i (z0a (q0h (fr := false) (q0b (q0a rfl) (q0b q0e q0g)) rfl c1) q0e (by decide)) q (by have := t.m0; omega)
 let z7 : Sv := .val (.tup (iD (rows.getD a [])))
 let z8 : Sv := .val (.int (at2 rows a b))
 have w2 : q0L (evE G (run G T 100 59) (.lst [.var 8, .bin .Mod (.bin .Add (.var 8) (.int 1)) (.int 10)]) (L1 z7 z8 .no .no)) = some (.ok [.int (at2 rows a b), .int ((at2 rows a b + 1) % 10)] .fresh) := by
  have q : evE G (run G T 100 59) (.lst [.var 8, .bin .Mod (.bin .Add (.var 8) (.int 1)) (.int 10)]) (L1 z7 z8 .no .no) = some (.ok (.lst [.int (at2 rows a b), .int ((at2 rows a b + 1) % 10)]) .fresh) :=
   q9S (l := [(.int (at2 rows a b), .strong), (.int ((at2 rows a b + 1) % 10), .strong)]) (q0b (q0a rfl) (q0b (q1i (q4G (q0a rfl) q0e) q0e (by decide)) q0g)) (show 2 <= mostLen by decide) rfl
  rw [q]; rfl
 obtain ⟨δ2, lp2, y6, y9, y10, rfl⟩ := q2B (tg := .one 9) (I := λ δ => ∃ z6 z9 z10 : Sv, δ = [.val (.scr ns), .val (tT rows), z2, z3, z4, z5, z6, z7, z8, z9, z10, .no]) (body := λ δ' => evSs G (run G T 100 59) 100 q9o δ') (ds := [.int (at2 rows a b), .int ((at2 rows a b + 1) % 10)]) (δ := L1 z7 z8 .no .no)
  (λ d hd δ I => by
   obtain ⟨z6, z9, z10, rfl⟩ := I
   obtain ⟨x, rfl⟩ : ∃ x : Int, d = .int x := by
    rcases List.mem_cons.mp hd with q | q
    ·exact ⟨_, q⟩
    ·exact ⟨_, List.mem_singleton.mp q⟩
   obtain ⟨z6', z10', e⟩ := z3h (fu := 100) (k := 19) (s := .scr ns) (w := x) (z2 := z2) (z3 := z3) (z4 := z4) (z5 := z5) (z6 := z6) (z7 := z7) (z8 := z8) (z10 := z10) t
   exact ⟨_, _, rfl, e, z6', _, z10', rfl⟩) ⟨z6, .no, .no, rfl⟩
 have s11 : evE G (run G T 100 59) (.call 16 [.call 11 [.var 0, .int 1]]) [.val (.scr ns), .val (tT rows), z2, z3, z4, z5, y6, z7, z8, y9, y10, .no] = some (.ok (tT gr) .strong) := q0h (fr := false) (q0b (q0h (fr := false) (q0b (q0a rfl) (q0b q0e q0g)) rfl c1) q0g) rfl eg
 let L3 : Sv -> Sv -> List Sv := λ z4 z5 => [.val (.scr ns), .val (tT rows), z2, z3, z4, z5, y6, z7, z8, y9, y10, .val (tT gr)]
 let ps : List (En × En) := [((0, 0), (1, 1)), ((0, 1), (gn - 1, gm - 1)), ((2, 2), (2, 2))]
 have w3 : q0L (evE G (run G T 100 59) (.lst [.tup [.tup [.int 0, .int 0], .tup [.int 1, .int 1]], .tup [.tup [.int 0, .int 1], .tup [.bin .Sub (.bi .len [.var 11]) (.int 1), .bin .Sub (.bi .len [.ix (.var 11) (.int 0)]) (.int 1)]], .tup [.tup [.int 2, .int 2], .tup [.int 2, .int 2]]]) (L3 z4 z5)) = some (.ok (ps.map λ p => .tup [pD p.1, pD p.2]) .fresh) := by
  have m1 : evE G (run G T 100 59) (.bin .Sub (.bi .len [.var 11]) (.int 1)) (L3 z4 z5) = some (.ok (.int ((gn - 1 : Nat) : Int)) .strong) := by
   rw [show ((gn - 1 : Nat) : Int) = (gn : Int) - 1 by omega]
   exact z3z (lenT gR (q0a rfl)) q0e
  have m2 : evE G (run G T 100 59) (.bin .Sub (.bi .len [.ix (.var 11) (.int 0)]) (.int 1)) (L3 z4 z5) = some (.ok (.int ((gm - 1 : Nat) : Int)) .strong) := by
   rw [show ((gm - 1 : Nat) : Int) = (gm : Int) - 1 by omega]
   exact z3z (z4S gR (by omega) (q0a rfl)) q0e
  have q : evE G (run G T 100 59) (.lst [.tup [.tup [.int 0, .int 0], .tup [.int 1, .int 1]], .tup [.tup [.int 0, .int 1], .tup [.bin .Sub (.bi .len [.var 11]) (.int 1), .bin .Sub (.bi .len [.ix (.var 11) (.int 0)]) (.int 1)]], .tup [.tup [.int 2, .int 2], .tup [.int 2, .int 2]]]) (L3 z4 z5) = some (.ok (.lst (ps.map λ p => .tup [pD p.1, pD p.2])) .fresh) :=
   q9S (l := [(.tup [pD (0, 0), pD (1, 1)], .strong), (.tup [pD (0, 1), pD (gn - 1, gm - 1)], .strong), (.tup [pD (2, 2), pD (2, 2)], .strong)]) (q0b rfl (q0b (z2j (q0b (q3q (i := 0) (j := 1) q0e q0e) (q0b (q3q m1 m2) q0g)) (show 2 <= mostLen by decide) rfl) (q0b rfl q0g))) (show 3 <= mostLen by decide) rfl
  rw [q]; rfl
 have Lg := q5U gR
 obtain ⟨δ3, lp3, x4, x5, rfl⟩ := q2B (tg := .many [4, 5]) (I := λ δ => ∃ z4 z5 : Sv, δ = L3 z4 z5) (body := λ δ' => evSs G (run G T 100 59) 100 z5g δ') (ds := ps.map λ p => .tup [pD p.1, pD p.2]) (δ := L3 z4 z5)
  (λ d hd δ I => by
   obtain ⟨z4, z5, rfl⟩ := I
   obtain ⟨p, hp, rfl⟩ := List.mem_map.mp hd
   have hb : (p.1.1 < gn /\ p.1.2 < gm) /\ p.2.1 < gn /\ p.2.2 < gm := by
    rcases List.mem_cons.mp hp with q | q
    ·rw [q]; exact ⟨⟨by show 0 < gn; omega, by show 0 < gm; omega⟩, by show 1 < gn; omega, by show 1 < gm; omega⟩
    ·rcases List.mem_cons.mp q with q | q
     ·rw [q]; exact ⟨⟨by show 0 < gn; omega, by show 1 < gm; omega⟩, by show gn - 1 < gn; omega, by show gm - 1 < gm; omega⟩
     ·rw [List.mem_singleton.mp q]; exact ⟨⟨by show 2 < gn; omega, by show 2 < gm; omega⟩, by show 2 < gn; omega, by show 2 < gm; omega⟩
   have k1 := z0x (fu := 100) (k := 58) Lg hb.1.1 hb.1.2 hb.2.1 hb.2.2
   have k2 := q5u (fu := 100) (k := 58) Lg hb.1.1 hb.1.2 hb.2.1 hb.2.2
   refine ⟨L3 (.val (pD p.1)) (.val (pD p.2)), _, rfl, q0D (q0f (cl := .strong) (q1Q (q0h (fr := false) (l := [(tT gr, .strong), (pD p.1, .strong), (pD p.2, .strong)]) rfl rfl k1) (q0h (fr := false) (l := [(tT gr, .strong), (pD p.1, .strong), (pD p.2, .strong)]) rfl rfl k2) (ne_b _))) rfl, _, _, rfl⟩) ⟨z4, z5, rfl⟩
 have rf : ∀ w : Int, run G T 100 59 17 [tT gr, .int w] = some (.v (.bl true) false) := λ w => q9r (k := 58) (q7e (fu := 100) (k := 52) gR (by omega) g2 g4 gs w)
 have fin : evE G (run G T 100 59) (.and [.call 17 [.var 11, .int 1], .call 17 [.var 11, .int 7]]) (L3 x4 x5) = some (.ok (.bl true) .strong) := z3C (cx := .strong) (q0h (fr := false) (l := [(tT gr, .strong), (.int 1, .strong)]) rfl rfl (rf 1)) (z3y (q0h (fr := false) (l := [(tT gr, .strong), (.int 7, .strong)]) rfl rfl (rf 7)))
 exact q1B (q0n (q0j s1 rfl) (q4k w1' (.inr rfl) lp1 (q0n (q0j s7 rfl) (q0n (q0j s8 rfl) (q4k w2 (.inr rfl) lp2 (q0n (q0j s11 rfl) (q4k w3 (.inr rfl) lp3 (q1b (q1d fin)))))))))
end k34
end
section
namespace k34
open PySem L2 PySem.Spec PyProof.Rows
noncomputable def top (i : Nat) : Stmt := PySem.Challenge.pw_talkleast_k34_entries_apart.main.body.getD i (.Pass ⟨0, 0, 0, 0⟩)
theorem lnS {α : Type} {us : List α} {n : Nat} (h : us.length = n + 1) : ∃ a r, us = a :: r /\ r.length = n := by cases us with | nil => cases h | cons a r => exact ⟨a, r, rfl, Nat.succ.inj h⟩
theorem fmc {α : Type} {p : α -> Prop} {a : α} {l : List α} (h : p a) (r : ∀ x ∈ l, p x) : ∀ x ∈ a :: l, p x := List.forall_mem_cons.mpr ⟨h, r⟩
theorem ln0 {α : Type} {us : List α} (h : us.length = 0) : us = [] := List.length_eq_zero_iff.mp h
theorem ln1 {α : Type} {us : List α} (h : us.length = 1) : ∃ a0, us = [a0] := by obtain ⟨_, _, rfl, h0⟩ := lnS h; obtain rfl := ln0 h0; exact ⟨_, rfl⟩
theorem ln2 {α : Type} {us : List α} (h : us.length = 2) : ∃ a0 a1, us = [a0, a1] := by obtain ⟨_, _, rfl, h0⟩ := lnS h; obtain ⟨_, _, rfl, h1⟩ := lnS h0; obtain rfl := ln0 h1; exact ⟨_, _, rfl⟩
theorem ln3 {α : Type} {us : List α} (h : us.length = 3) : ∃ a0 a1 a2, us = [a0, a1, a2] := by obtain ⟨_, _, rfl, h0⟩ := lnS h; obtain ⟨_, _, rfl, h1⟩ := lnS h0; obtain ⟨_, _, rfl, h2⟩ := lnS h1; obtain rfl := ln0 h2; exact ⟨_, _, _, rfl⟩
theorem ln4 {α : Type} {us : List α} (h : us.length = 4) : ∃ a0 a1 a2 a3, us = [a0, a1, a2, a3] := by obtain ⟨_, _, rfl, h0⟩ := lnS h; obtain ⟨_, _, rfl, h1⟩ := lnS h0; obtain ⟨_, _, rfl, h2⟩ := lnS h1; obtain ⟨_, _, rfl, h3⟩ := lnS h2; obtain rfl := ln0 h3; exact ⟨_, _, _, _, rfl⟩
noncomputable def fn : List Str := ["flipped", "crossing", "row_kinds", "column_kinds", "trimmed", "is_small", "check_small", "apart", "most_apart", "keep_apart", "_law_int", "_law_cell_at", "_law_stream", "_law_core", "_law_table", "_law_trimmed", "_law_great", "_law_refused", "_law_keep", "_law_most", "_law_good", "law"]
noncomputable def bl : List Str := ["tuple", "range", "len", "sorted", "set", "isinstance", "int", "bool", "min", "list", "ValueError", "max"]
noncomputable def cl : List Str := ["TalkError", "NoTable", "NoCard", "TooGreat"]
theorem ok0 : okD fn bl cl q3c ["table"] ["table"] (top 7) = true := by decide +kernel
theorem ok1 : okD fn bl cl q2F ["table", "rows", "columns"] ["table", "rows", "columns"] (top 8) = true := by decide +kernel
theorem ok2 : okD fn bl cl q2q ["table"] ["table"] (top 9) = true := by decide +kernel
theorem ok3 : okD fn bl cl q1r ["table"] ["table"] (top 10) = true := by decide +kernel
theorem ok4 : okD fn bl cl q2Z ["table"] ["table"] (top 11) = true := by decide +kernel
theorem ok5 : okD fn bl cl q2H ["table", "rest"] ["table"] (top 12) = true := by decide +kernel
theorem ok6 : okD fn bl cl q1A ["table"] ["table"] (top 13) = true := by decide +kernel
theorem ok7 : okD fn bl cl q3u ["table", "word", "columns", "entries", "row"] ["table", "word"] (top 15) = true := by decide +kernel
theorem ok8 : okD fn bl cl q1c ["table", "entries", "first", "later", "taken", "passed"] ["table", "entries"] (top 16) = true := by decide +kernel
theorem ok9 : okD fn bl cl q1P ["table", "one", "other", "word"] ["table", "one", "other"] (top 17) = true := by decide +kernel
theorem ok10 : okD fn bl cl q3p ["_law_found"] ["_law_found"] (top 19) = true := by decide +kernel
theorem ok11 : okD fn bl cl q1s ["_law_script", "_law_k"] ["_law_script", "_law_k"] (top 20) = true := by decide +kernel
theorem ok12 : okD fn bl cl q1C ["_law_cell", "_law_many", "_law_found", "_law_number", "_law_k"] ["_law_cell", "_law_many"] (top 21) = true := by decide +kernel
theorem ok13 : okD fn bl cl q1l ["_law_script", "_law_start", "_law_xs", "_law_most_here", "_law_many", "_law_wide", "_law_top", "_law_words", "_law_k", "_law_rows"] ["_law_script", "_law_start", "_law_xs"] (top 22) = true := by decide +kernel
theorem ok14 : okD fn bl cl q1O ["_law_script", "_law_start", "_law_xs", "_law_rows", "_law_k", "_law_at", "_law_there"] ["_law_script", "_law_start"] (top 23) = true := by decide +kernel
theorem ok15 : okD fn bl cl q1u ["_law_table_here", "_law_rows", "_law_columns", "_law_kept"] ["_law_table_here"] (top 24) = true := by decide +kernel
theorem ok16 : okD fn bl cl q0H ["_law_cell", "_law_many", "_law_rows"] ["_law_cell"] (top 25) = true := by decide +kernel
theorem ok17 : okD fn bl cl q1q ["_law_table_here", "_law_word", "_law_caught", "error"] ["_law_table_here", "_law_word"] (top 26) = true := by decide +kernel
theorem ok18 : okD fn bl cl q2i ["_law_table_here", "_law_one", "_law_other", "_law_word"] ["_law_table_here", "_law_one", "_law_other"] (top 27) = true := by decide +kernel
theorem ok19 : okD fn bl cl q1n ["_law_small", "_law_word", "_law_chosen", "_law_row", "_law_most_here", "_law_c"] ["_law_small", "_law_word", "_law_chosen", "_law_row"] (top 28) = true := by decide +kernel
theorem ok20 : okD fn bl cl q2g ["_law_found", "_law_table_here", "_law_word", "_law_pair", "_law_k", "_law_j"] ["_law_found", "_law_table_here", "_law_word"] (top 29) = true := by decide +kernel
theorem ok21 : okD fn bl cl z1n ["_law_script", "_law_table_here", "_law_cell", "_law_xs", "_law_one", "_law_other", "_law_found", "_law_row", "_law_word", "_law_some", "_law_held", "_law_great_here"] ["_law_script"] (top 30) = true := by decide +kernel
open PySem.W
theorem all_mk {l : OpenLaw} {w : World} {K : Frag} {h : Heap} {mg : Str -> Option Value} {fa f0 f1 f2 f3 f4 f5 f6 f7 f8 f9 f10 f11 f12 f13 f14 f15 f16 f17 f18 f19 f20 f21 : Addr} (X : K.In h) (Ns : h.Ns mainGlobals mg) (hfa : mg "law" = some (.ref fa))
  {od0 an0 od1 an1 od2 an2 od3 an3 od4 an4 od5 an5 od6 an6 od7 an7 od8 an8 od9 an9 od10 an10 od11 an11 od12 an12 od13 an13 od14 an14 od15 an15 od16 an16 od17 an17 od18 an18 od19 an19 od20 an20 od21 an21 : Option Addr} {sl0 sl1 sl2 sl3 sl4 sl5 sl6 sl7 sl8 sl9 sl10 sl11 sl12 sl13 sl14 sl15 sl16 sl17 sl18 sl19 sl20 sl21 : Array (Option Value)} {oc0 kV0 dc0 pm0 cd0 ct0 oc1 kV1 dc1 pm1 cd1 ct1 oc2 kV2 dc2 pm2 cd2 ct2 oc3 kV3 dc3 pm3 cd3 ct3 oc4 kV4 dc4 pm4 cd4 ct4 oc5 kV5 dc5 pm5 cd5 ct5 oc6 kV6 dc6 pm6 cd6 ct6 oc7 kV7 dc7 pm7 cd7 ct7 oc8 kV8 dc8 pm8 cd8 ct8 oc9 kV9 dc9 pm9 cd9 ct9 oc10 kV10 dc10 pm10 cd10 ct10 oc11 kV11 dc11 pm11 cd11 ct11 oc12 kV12 dc12 pm12 cd12 ct12 oc13 kV13 dc13 pm13 cd13 ct13 oc14 kV14 dc14 pm14 cd14 ct14 oc15 kV15 dc15 pm15 cd15 ct15 oc16 kV16 dc16 pm16 cd16 ct16 oc17 kV17 dc17 pm17 cd17 ct17 oc18 kV18 dc18 pm18 cd18 ct18 oc19 kV19 dc19 pm19 cd19 ct19 oc20 kV20 dc20 pm20 cd20 ct20 oc21 kV21 dc21 pm21 cd21 ct21 : Value}
  (a0 : nsIn K mainGlobals "flipped" = some (some (.ref f0))) (l0 : K.lookup f0 = some ⟨oc0, od0, .func (fnOf "flipped" "flipped" (q0r (top 7)) (q0l (top 7)) (q0c (top 7)) .none kV0 dc0 pm0 an0 cd0 ct0), sl0⟩) (c0 : codeIn K cd0 "flipped" = true) (k0 : keepIn K (.ref f0) = true)
  (a1 : nsIn K mainGlobals "crossing" = some (some (.ref f1))) (l1 : K.lookup f1 = some ⟨oc1, od1, .func (fnOf "crossing" "crossing" (q0r (top 8)) (q0l (top 8)) (q0c (top 8)) .none kV1 dc1 pm1 an1 cd1 ct1), sl1⟩) (c1 : codeIn K cd1 "crossing" = true) (k1 : keepIn K (.ref f1) = true)
  (a2 : nsIn K mainGlobals "row_kinds" = some (some (.ref f2))) (l2 : K.lookup f2 = some ⟨oc2, od2, .func (fnOf "row_kinds" "row_kinds" (q0r (top 9)) (q0l (top 9)) (q0c (top 9)) .none kV2 dc2 pm2 an2 cd2 ct2), sl2⟩) (c2 : codeIn K cd2 "row_kinds" = true) (k2 : keepIn K (.ref f2) = true)
  (a3 : nsIn K mainGlobals "column_kinds" = some (some (.ref f3))) (l3 : K.lookup f3 = some ⟨oc3, od3, .func (fnOf "column_kinds" "column_kinds" (q0r (top 10)) (q0l (top 10)) (q0c (top 10)) .none kV3 dc3 pm3 an3 cd3 ct3), sl3⟩) (c3 : codeIn K cd3 "column_kinds" = true) (k3 : keepIn K (.ref f3) = true)
  (a4 : nsIn K mainGlobals "trimmed" = some (some (.ref f4))) (l4 : K.lookup f4 = some ⟨oc4, od4, .func (fnOf "trimmed" "trimmed" (q0r (top 11)) (q0l (top 11)) (q0c (top 11)) .none kV4 dc4 pm4 an4 cd4 ct4), sl4⟩) (c4 : codeIn K cd4 "trimmed" = true) (k4 : keepIn K (.ref f4) = true)
  (a5 : nsIn K mainGlobals "is_small" = some (some (.ref f5))) (l5 : K.lookup f5 = some ⟨oc5, od5, .func (fnOf "is_small" "is_small" (q0r (top 12)) (q0l (top 12)) (q0c (top 12)) .none kV5 dc5 pm5 an5 cd5 ct5), sl5⟩) (c5 : codeIn K cd5 "is_small" = true) (k5 : keepIn K (.ref f5) = true)
  (a6 : nsIn K mainGlobals "check_small" = some (some (.ref f6))) (l6 : K.lookup f6 = some ⟨oc6, od6, .func (fnOf "check_small" "check_small" (q0r (top 13)) (q0l (top 13)) (q0c (top 13)) .none kV6 dc6 pm6 an6 cd6 ct6), sl6⟩) (c6 : codeIn K cd6 "check_small" = true) (k6 : keepIn K (.ref f6) = true)
  (a7 : nsIn K mainGlobals "apart" = some (some (.ref f7))) (l7 : K.lookup f7 = some ⟨oc7, od7, .func (fnOf "apart" "apart" (q0r (top 15)) (q0l (top 15)) (q0c (top 15)) .none kV7 dc7 pm7 an7 cd7 ct7), sl7⟩) (c7 : codeIn K cd7 "apart" = true) (k7 : keepIn K (.ref f7) = true)
  (a8 : nsIn K mainGlobals "most_apart" = some (some (.ref f8))) (l8 : K.lookup f8 = some ⟨oc8, od8, .func (fnOf "most_apart" "most_apart" (q0r (top 16)) (q0l (top 16)) (q0c (top 16)) .none kV8 dc8 pm8 an8 cd8 ct8), sl8⟩) (c8 : codeIn K cd8 "most_apart" = true) (k8 : keepIn K (.ref f8) = true)
  (a9 : nsIn K mainGlobals "keep_apart" = some (some (.ref f9))) (l9 : K.lookup f9 = some ⟨oc9, od9, .func (fnOf "keep_apart" "keep_apart" (q0r (top 17)) (q0l (top 17)) (q0c (top 17)) .none kV9 dc9 pm9 an9 cd9 ct9), sl9⟩) (c9 : codeIn K cd9 "keep_apart" = true) (k9 : keepIn K (.ref f9) = true)
  (a10 : nsIn K mainGlobals "_law_int" = some (some (.ref f10))) (l10 : K.lookup f10 = some ⟨oc10, od10, .func (fnOf "_law_int" "_law_int" (q0r (top 19)) (q0l (top 19)) (q0c (top 19)) .none kV10 dc10 pm10 an10 cd10 ct10), sl10⟩) (c10 : codeIn K cd10 "_law_int" = true) (k10 : keepIn K (.ref f10) = true)
  (a11 : nsIn K mainGlobals "_law_cell_at" = some (some (.ref f11))) (l11 : K.lookup f11 = some ⟨oc11, od11, .func (fnOf "_law_cell_at" "_law_cell_at" (q0r (top 20)) (q0l (top 20)) (q0c (top 20)) .none kV11 dc11 pm11 an11 cd11 ct11), sl11⟩) (c11 : codeIn K cd11 "_law_cell_at" = true) (k11 : keepIn K (.ref f11) = true)
  (a12 : nsIn K mainGlobals "_law_stream" = some (some (.ref f12))) (l12 : K.lookup f12 = some ⟨oc12, od12, .func (fnOf "_law_stream" "_law_stream" (q0r (top 21)) (q0l (top 21)) (q0c (top 21)) .none kV12 dc12 pm12 an12 cd12 ct12), sl12⟩) (c12 : codeIn K cd12 "_law_stream" = true) (k12 : keepIn K (.ref f12) = true)
  (a13 : nsIn K mainGlobals "_law_core" = some (some (.ref f13))) (l13 : K.lookup f13 = some ⟨oc13, od13, .func (fnOf "_law_core" "_law_core" (q0r (top 22)) (q0l (top 22)) (q0c (top 22)) .none kV13 dc13 pm13 an13 cd13 ct13), sl13⟩) (c13 : codeIn K cd13 "_law_core" = true) (k13 : keepIn K (.ref f13) = true)
  (a14 : nsIn K mainGlobals "_law_table" = some (some (.ref f14))) (l14 : K.lookup f14 = some ⟨oc14, od14, .func (fnOf "_law_table" "_law_table" (q0r (top 23)) (q0l (top 23)) (q0c (top 23)) .none kV14 dc14 pm14 an14 cd14 ct14), sl14⟩) (c14 : codeIn K cd14 "_law_table" = true) (k14 : keepIn K (.ref f14) = true)
  (a15 : nsIn K mainGlobals "_law_trimmed" = some (some (.ref f15))) (l15 : K.lookup f15 = some ⟨oc15, od15, .func (fnOf "_law_trimmed" "_law_trimmed" (q0r (top 24)) (q0l (top 24)) (q0c (top 24)) .none kV15 dc15 pm15 an15 cd15 ct15), sl15⟩) (c15 : codeIn K cd15 "_law_trimmed" = true) (k15 : keepIn K (.ref f15) = true)
  (a16 : nsIn K mainGlobals "_law_great" = some (some (.ref f16))) (l16 : K.lookup f16 = some ⟨oc16, od16, .func (fnOf "_law_great" "_law_great" (q0r (top 25)) (q0l (top 25)) (q0c (top 25)) .none kV16 dc16 pm16 an16 cd16 ct16), sl16⟩) (c16 : codeIn K cd16 "_law_great" = true) (k16 : keepIn K (.ref f16) = true)
  (a17 : nsIn K mainGlobals "_law_refused" = some (some (.ref f17))) (l17 : K.lookup f17 = some ⟨oc17, od17, .func (fnOf "_law_refused" "_law_refused" (q0r (top 26)) (q0l (top 26)) (q0c (top 26)) .none kV17 dc17 pm17 an17 cd17 ct17), sl17⟩) (c17 : codeIn K cd17 "_law_refused" = true) (k17 : keepIn K (.ref f17) = true)
  (a18 : nsIn K mainGlobals "_law_keep" = some (some (.ref f18))) (l18 : K.lookup f18 = some ⟨oc18, od18, .func (fnOf "_law_keep" "_law_keep" (q0r (top 27)) (q0l (top 27)) (q0c (top 27)) .none kV18 dc18 pm18 an18 cd18 ct18), sl18⟩) (c18 : codeIn K cd18 "_law_keep" = true) (k18 : keepIn K (.ref f18) = true)
  (a19 : nsIn K mainGlobals "_law_most" = some (some (.ref f19))) (l19 : K.lookup f19 = some ⟨oc19, od19, .func (fnOf "_law_most" "_law_most" (q0r (top 28)) (q0l (top 28)) (q0c (top 28)) .none kV19 dc19 pm19 an19 cd19 ct19), sl19⟩) (c19 : codeIn K cd19 "_law_most" = true) (k19 : keepIn K (.ref f19) = true)
  (a20 : nsIn K mainGlobals "_law_good" = some (some (.ref f20))) (l20 : K.lookup f20 = some ⟨oc20, od20, .func (fnOf "_law_good" "_law_good" (q0r (top 29)) (q0l (top 29)) (q0c (top 29)) .none kV20 dc20 pm20 an20 cd20 ct20), sl20⟩) (c20 : codeIn K cd20 "_law_good" = true) (k20 : keepIn K (.ref f20) = true)
  (a21 : nsIn K mainGlobals "law" = some (some (.ref f21))) (l21 : K.lookup f21 = some ⟨oc21, od21, .func (fnOf "law" "law" (q0r (top 30)) (q0l (top 30)) (q0c (top 30)) .none kV21 dc21 pm21 an21 cd21 ct21), sl21⟩) (c21 : codeIn K cd21 "law" = true) (k21 : keepIn K (.ref f21) = true)
  (z0 : nsIn K mainGlobals "tuple" = some none)
  (z1 : nsIn K mainGlobals "range" = some none)
  (z2 : nsIn K mainGlobals "len" = some none)
  (z3 : nsIn K mainGlobals "sorted" = some none)
  (z4 : nsIn K mainGlobals "set" = some none)
  (z5 : nsIn K mainGlobals "isinstance" = some none)
  (z6 : nsIn K mainGlobals "int" = some none)
  (z7 : nsIn K mainGlobals "bool" = some none)
  (z8 : nsIn K mainGlobals "min" = some none)
  (z9 : nsIn K mainGlobals "list" = some none)
  (z10 : nsIn K mainGlobals "ValueError" = some none)
  (z11 : nsIn K mainGlobals "max" = some none)
  {C0 C1 C2 C3 : Addr}
  (xa0 : nsIn K mainGlobals "TalkError" = some (some (.ref C0))) (xg0 : findIn K (.ref C0) "__getattribute__" = some (some (.builtin "BaseException.__getattribute__"))) (xh0 : hasDictIn K C0 = true) (xf0 : findIn K (.ref C0) "__class__" = some (some (.builtin "object.__class__"))) (xm0 : mroIn K C0 (.type "object") = some true)
  (xe0 : excIn K C0 [.type "ValueError", .type "Exception", .type "BaseException", .type "object"] "ValueError.__new__" = true) (xv0 : kitOne K (.ref C0) (.type "ValueError") = some true)
  (xk0_0 : kitOne K (.ref C0) (.ref C0) = some true) (xx0_0 : exmOne K (.ref C0) (.ref C0) = some true)
  (xk0_1 : kitOne K (.ref C0) (.ref C1) = some false)
  (xk0_2 : kitOne K (.ref C0) (.ref C2) = some false)
  (xk0_3 : kitOne K (.ref C0) (.ref C3) = some false)
  (xt0 : findIn K (.ref C0) "__getattr__" = some none) (xb0 : mroIn K C0 (.type "BaseException") = some true)
  (xa1 : nsIn K mainGlobals "NoTable" = some (some (.ref C1))) (xg1 : findIn K (.ref C1) "__getattribute__" = some (some (.builtin "BaseException.__getattribute__"))) (xh1 : hasDictIn K C1 = true) (xf1 : findIn K (.ref C1) "__class__" = some (some (.builtin "object.__class__"))) (xm1 : mroIn K C1 (.type "object") = some true)
  (xe1 : excIn K C1 [.type "ValueError", .type "Exception", .type "BaseException", .type "object"] "ValueError.__new__" = true) (xv1 : kitOne K (.ref C1) (.type "ValueError") = some true)
  (xk1_0 : kitOne K (.ref C1) (.ref C0) = some true) (xx1_0 : exmOne K (.ref C1) (.ref C0) = some true)
  (xk1_1 : kitOne K (.ref C1) (.ref C1) = some true) (xx1_1 : exmOne K (.ref C1) (.ref C1) = some true)
  (xk1_2 : kitOne K (.ref C1) (.ref C2) = some false)
  (xk1_3 : kitOne K (.ref C1) (.ref C3) = some false)
  (xt1 : findIn K (.ref C1) "__getattr__" = some none) (xb1 : mroIn K C1 (.type "BaseException") = some true)
  (xa2 : nsIn K mainGlobals "NoCard" = some (some (.ref C2))) (xg2 : findIn K (.ref C2) "__getattribute__" = some (some (.builtin "BaseException.__getattribute__"))) (xh2 : hasDictIn K C2 = true) (xf2 : findIn K (.ref C2) "__class__" = some (some (.builtin "object.__class__"))) (xm2 : mroIn K C2 (.type "object") = some true)
  (xe2 : excIn K C2 [.type "ValueError", .type "Exception", .type "BaseException", .type "object"] "ValueError.__new__" = true) (xv2 : kitOne K (.ref C2) (.type "ValueError") = some true)
  (xk2_0 : kitOne K (.ref C2) (.ref C0) = some true) (xx2_0 : exmOne K (.ref C2) (.ref C0) = some true)
  (xk2_1 : kitOne K (.ref C2) (.ref C1) = some false)
  (xk2_2 : kitOne K (.ref C2) (.ref C2) = some true) (xx2_2 : exmOne K (.ref C2) (.ref C2) = some true)
  (xk2_3 : kitOne K (.ref C2) (.ref C3) = some false)
  (xt2 : findIn K (.ref C2) "__getattr__" = some none) (xb2 : mroIn K C2 (.type "BaseException") = some true)
  (xa3 : nsIn K mainGlobals "TooGreat" = some (some (.ref C3))) (xg3 : findIn K (.ref C3) "__getattribute__" = some (some (.builtin "BaseException.__getattribute__"))) (xh3 : hasDictIn K C3 = true) (xf3 : findIn K (.ref C3) "__class__" = some (some (.builtin "object.__class__"))) (xm3 : mroIn K C3 (.type "object") = some true)
  (xe3 : excIn K C3 [.type "ValueError", .type "Exception", .type "BaseException", .type "object"] "ValueError.__new__" = true) (xv3 : kitOne K (.ref C3) (.type "ValueError") = some true)
  (xk3_0 : kitOne K (.ref C3) (.ref C0) = some true) (xx3_0 : exmOne K (.ref C3) (.ref C0) = some true)
  (xk3_1 : kitOne K (.ref C3) (.ref C1) = some false)
  (xk3_2 : kitOne K (.ref C3) (.ref C2) = some false)
  (xk3_3 : kitOne K (.ref C3) (.ref C3) = some true) (xx3_3 : exmOne K (.ref C3) (.ref C3) = some true)
  (xt3 : findIn K (.ref C3) "__getattr__" = some none) (xb3 : mroIn K C3 (.type "BaseException") = some true)
  (xs0 : specialIn K (.builtin "object.__class__") "__get__" = some (some (.builtin "getset_descriptor.__get__"))) (xs1 : takesIn K (.builtin "object.__class__") = some true)
  {tg0 : _} (g0 : nsIn K mainGlobals "SMALL_LINES" = some (some (.int 5 tg0)))
  : ∃ fd : FuncData, (∀ (s : Shared) (v : Value), BindsTo s fd ⟨[v], []⟩ [("_law_script", v)]) /\ ∀ base : Heap, K.In base -> base.Ns mainGlobals mg -> FnOk l.prog w K mg base CX0 60 fa fd ["_law_script"] (spS K) := by
 have e := hfa.symm.trans (mg_of X Ns a21)
 cases e
 have S0 := q0o X Ns ok0 a0 l0 c0 k0 λ _ _ _ _ _ _ us hl => by obtain ⟨_, rfl⟩ := ln1 hl; rfl
 have S1 := q0o X Ns ok1 a1 l1 c1 k1 λ _ _ _ _ _ _ us hl => by obtain ⟨_, _, _, rfl⟩ := ln3 hl; rfl
 have S2 := q0o X Ns ok2 a2 l2 c2 k2 λ _ _ _ _ _ _ us hl => by obtain ⟨_, rfl⟩ := ln1 hl; rfl
 have S3 := q0o X Ns ok3 a3 l3 c3 k3 λ _ _ _ _ _ _ us hl => by obtain ⟨_, rfl⟩ := ln1 hl; rfl
 have S4 := q0o X Ns ok4 a4 l4 c4 k4 λ _ _ _ _ _ _ us hl => by obtain ⟨_, rfl⟩ := ln1 hl; rfl
 have S5 := q0o X Ns ok5 a5 l5 c5 k5 λ _ _ _ _ _ _ us hl => by obtain ⟨_, rfl⟩ := ln1 hl; rfl
 have S6 := q0o X Ns ok6 a6 l6 c6 k6 λ _ _ _ _ _ _ us hl => by obtain ⟨_, rfl⟩ := ln1 hl; rfl
 have S7 := q0o X Ns ok7 a7 l7 c7 k7 λ _ _ _ _ _ _ us hl => by obtain ⟨_, _, rfl⟩ := ln2 hl; rfl
 have S8 := q0o X Ns ok8 a8 l8 c8 k8 λ _ _ _ _ _ _ us hl => by obtain ⟨_, _, rfl⟩ := ln2 hl; rfl
 have S9 := q0o X Ns ok9 a9 l9 c9 k9 λ _ _ _ _ _ _ us hl => by obtain ⟨_, _, _, rfl⟩ := ln3 hl; rfl
 have S10 := q0o X Ns ok10 a10 l10 c10 k10 λ _ _ _ _ _ _ us hl => by obtain ⟨_, rfl⟩ := ln1 hl; rfl
 have S11 := q0o X Ns ok11 a11 l11 c11 k11 λ _ _ _ _ _ _ us hl => by obtain ⟨_, _, rfl⟩ := ln2 hl; rfl
 have S12 := q0o X Ns ok12 a12 l12 c12 k12 λ _ _ _ _ _ _ us hl => by obtain ⟨_, _, rfl⟩ := ln2 hl; rfl
 have S13 := q0o X Ns ok13 a13 l13 c13 k13 λ _ _ _ _ _ _ us hl => by obtain ⟨_, _, _, rfl⟩ := ln3 hl; rfl
 have S14 := q0o X Ns ok14 a14 l14 c14 k14 λ _ _ _ _ _ _ us hl => by obtain ⟨_, _, rfl⟩ := ln2 hl; rfl
 have S15 := q0o X Ns ok15 a15 l15 c15 k15 λ _ _ _ _ _ _ us hl => by obtain ⟨_, rfl⟩ := ln1 hl; rfl
 have S16 := q0o X Ns ok16 a16 l16 c16 k16 λ _ _ _ _ _ _ us hl => by obtain ⟨_, rfl⟩ := ln1 hl; rfl
 have S17 := q0o X Ns ok17 a17 l17 c17 k17 λ _ _ _ _ _ _ us hl => by obtain ⟨_, _, rfl⟩ := ln2 hl; rfl
 have S18 := q0o X Ns ok18 a18 l18 c18 k18 λ _ _ _ _ _ _ us hl => by obtain ⟨_, _, _, rfl⟩ := ln3 hl; rfl
 have S19 := q0o X Ns ok19 a19 l19 c19 k19 λ _ _ _ _ _ _ us hl => by obtain ⟨_, _, _, _, rfl⟩ := ln4 hl; rfl
 have S20 := q0o X Ns ok20 a20 l20 c20 k20 λ _ _ _ _ _ _ us hl => by obtain ⟨_, _, _, rfl⟩ := ln3 hl; rfl
 have S21 := q0o X Ns ok21 a21 l21 c21 k21 λ _ _ _ _ _ _ us hl => by obtain ⟨_, rfl⟩ := ln1 hl; rfl
 refine ⟨_, λ s v => .of_eq rfl, λ base _ _ => z1w (T := T) (G := G) (fu := 100) rfl (q0G S0 (q0G S1 (q0G S2 (q0G S3 (q0G S4 (q0G S5 (q0G S6 (q0G S7 (q0G S8 (q0G S9 (q0G S10 (q0G S11 (q0G S12 (q0G S13 (q0G S14 (q0G S15 (q0G S16 (q0G S17 (q0G S18 (q0G S19 (q0G S20 (q0G S21 z5p)))))))))))))))))))))) ?_ ?_ ?_ ?_ z3d (i := 21) rfl rfl S21 z3e⟩
 ·exact fmc (mg_none_of X Ns z0) (fmc (mg_none_of X Ns z1) (fmc (mg_none_of X Ns z2) (fmc (mg_none_of X Ns z3) (fmc (mg_none_of X Ns z4) (fmc (mg_none_of X Ns z5) (fmc (mg_none_of X Ns z6) (fmc (mg_none_of X Ns z7) (fmc (mg_none_of X Ns z8) (fmc (mg_none_of X Ns z9) (fmc (mg_none_of X Ns z10) (fmc (mg_none_of X Ns z11) (by intro x hx; cases hx))))))))))))
 ·refine ⟨q4g ⟨_, mg_of X Ns xa0, ⟨xg0, xt0, xb0, xh0, xf0, xs0, xs1, xm0⟩, ⟨_, _, _, _, PySem.F.excBase_ValueError, xe0⟩, (q0M (mg_of X Ns xa0) ⟨xk0_0, λ _ => xx0_0⟩ (q0M (mg_of X Ns xa1) ⟨xk0_1, λ z => nomatch z⟩ (q0M (mg_of X Ns xa2) ⟨xk0_2, λ z => nomatch z⟩ (q0M (mg_of X Ns xa3) ⟨xk0_3, λ z => nomatch z⟩ q5O)))), xv0⟩ (q4g ⟨_, mg_of X Ns xa1, ⟨xg1, xt1, xb1, xh1, xf1, xs0, xs1, xm1⟩, ⟨_, _, _, _, PySem.F.excBase_ValueError, xe1⟩, (q0M (mg_of X Ns xa0) ⟨xk1_0, λ _ => xx1_0⟩ (q0M (mg_of X Ns xa1) ⟨xk1_1, λ _ => xx1_1⟩ (q0M (mg_of X Ns xa2) ⟨xk1_2, λ z => nomatch z⟩ (q0M (mg_of X Ns xa3) ⟨xk1_3, λ z => nomatch z⟩ q5O)))), xv1⟩ (q4g ⟨_, mg_of X Ns xa2, ⟨xg2, xt2, xb2, xh2, xf2, xs0, xs1, xm2⟩, ⟨_, _, _, _, PySem.F.excBase_ValueError, xe2⟩, (q0M (mg_of X Ns xa0) ⟨xk2_0, λ _ => xx2_0⟩ (q0M (mg_of X Ns xa1) ⟨xk2_1, λ z => nomatch z⟩ (q0M (mg_of X Ns xa2) ⟨xk2_2, λ _ => xx2_2⟩ (q0M (mg_of X Ns xa3) ⟨xk2_3, λ z => nomatch z⟩ q5O)))), xv2⟩ (q4g ⟨_, mg_of X Ns xa3, ⟨xg3, xt3, xb3, xh3, xf3, xs0, xs1, xm3⟩, ⟨_, _, _, _, PySem.F.excBase_ValueError, xe3⟩, (q0M (mg_of X Ns xa0) ⟨xk3_0, λ _ => xx3_0⟩ (q0M (mg_of X Ns xa1) ⟨xk3_1, λ z => nomatch z⟩ (q0M (mg_of X Ns xa2) ⟨xk3_2, λ z => nomatch z⟩ (q0M (mg_of X Ns xa3) ⟨xk3_3, λ _ => xx3_3⟩ q5O)))), xv3⟩ (z3D)))), all_cons ⟨_, mg_of X Ns xa0⟩ (all_cons ⟨_, mg_of X Ns xa1⟩ (all_cons ⟨_, mg_of X Ns xa2⟩ (all_cons ⟨_, mg_of X Ns xa3⟩ (all_nil))))⟩
 ·intro x d h
  exact z1o ⟨_, .int _, mg_of X Ns g0, ⟨_, rfl⟩, λ H => q0O.mpr rfl⟩ (z2J) x d h
 ·intro x kvs h
  exact z3Q x kvs h
end k34
open PySem PySem.W PyProof.Rows
set_option maxRecDepth 100000 in
set_option maxHeartbeats 0 in
theorem PySem.Challenge.cw_talkleast_k34_entries_apart_holds : PySem.Challenge.rw_talkleast_k34_entries_apart.Holds := by
 w_on; o_law; k_head; (case hw => w_witness2)
 k_fill
 refine L2.walkE (l := PySem.Challenge.rw_talkleast_k34_entries_apart) (k := 60) (p := "_law_script") rfl rfl ⟨rfl, by decide, by decide⟩ (λ w h Y => PySem.W.kIn_of Y) ?F
 case F =>
  intro w mg fa h KX G hmg
  refine' k34.all_mk KX G hmg ?a0 ?l0 ?c0 ?k0 ?a1 ?l1 ?c1 ?k1 ?a2 ?l2 ?c2 ?k2 ?a3 ?l3 ?c3 ?k3 ?a4 ?l4 ?c4 ?k4 ?a5 ?l5 ?c5 ?k5 ?a6 ?l6 ?c6 ?k6 ?a7 ?l7 ?c7 ?k7 ?a8 ?l8 ?c8 ?k8 ?a9 ?l9 ?c9 ?k9 ?a10 ?l10 ?c10 ?k10 ?a11 ?l11 ?c11 ?k11 ?a12 ?l12 ?c12 ?k12 ?a13 ?l13 ?c13 ?k13 ?a14 ?l14 ?c14 ?k14 ?a15 ?l15 ?c15 ?k15 ?a16 ?l16 ?c16 ?k16 ?a17 ?l17 ?c17 ?k17 ?a18 ?l18 ?c18 ?k18 ?a19 ?l19 ?c19 ?k19 ?a20 ?l20 ?c20 ?k20 ?a21 ?l21 ?c21 ?k21 ?z0 ?z1 ?z2 ?z3 ?z4 ?z5 ?z6 ?z7 ?z8 ?z9 ?z10 ?z11 ?xa0 ?xg0 ?xh0 ?xf0 ?xm0 ?xe0 ?xv0 ?xk0_0 ?xx0_0 ?xk0_1 ?xk0_2 ?xk0_3 ?xt0 ?xb0 ?xa1 ?xg1 ?xh1 ?xf1 ?xm1 ?xe1 ?xv1 ?xk1_0 ?xx1_0 ?xk1_1 ?xx1_1 ?xk1_2 ?xk1_3 ?xt1 ?xb1 ?xa2 ?xg2 ?xh2 ?xf2 ?xm2 ?xe2 ?xv2 ?xk2_0 ?xx2_0 ?xk2_1 ?xk2_2 ?xx2_2 ?xk2_3 ?xt2 ?xb2 ?xa3 ?xg3 ?xh3 ?xf3 ?xm3 ?xe3 ?xv3 ?xk3_0 ?xx3_0 ?xk3_1 ?xk3_2 ?xk3_3 ?xx3_3 ?xt3 ?xb3 ?xs0 ?xs1 ?ycon0
  (case a0 => k_is); (case l0 => k_is); (case c0 => k_is); (case k0 => k_is)
  (case a1 => k_is); (case l1 => k_is); (case c1 => k_is); (case k1 => k_is)
  (case a2 => k_is); (case l2 => k_is); (case c2 => k_is); (case k2 => k_is)
  (case a3 => k_is); (case l3 => k_is); (case c3 => k_is); (case k3 => k_is)
  (case a4 => k_is); (case l4 => k_is); (case c4 => k_is); (case k4 => k_is)
  (case a5 => k_is); (case l5 => k_is); (case c5 => k_is); (case k5 => k_is)
  (case a6 => k_is); (case l6 => k_is); (case c6 => k_is); (case k6 => k_is)
  (case a7 => k_is); (case l7 => k_is); (case c7 => k_is); (case k7 => k_is)
  (case a8 => k_is); (case l8 => k_is); (case c8 => k_is); (case k8 => k_is)
  (case a9 => k_is); (case l9 => k_is); (case c9 => k_is); (case k9 => k_is)
  (case a10 => k_is); (case l10 => k_is); (case c10 => k_is); (case k10 => k_is)
  (case a11 => k_is); (case l11 => k_is); (case c11 => k_is); (case k11 => k_is)
  (case a12 => k_is); (case l12 => k_is); (case c12 => k_is); (case k12 => k_is)
  (case a13 => k_is); (case l13 => k_is); (case c13 => k_is); (case k13 => k_is)
  (case a14 => k_is); (case l14 => k_is); (case c14 => k_is); (case k14 => k_is)
  (case a15 => k_is); (case l15 => k_is); (case c15 => k_is); (case k15 => k_is)
  (case a16 => k_is); (case l16 => k_is); (case c16 => k_is); (case k16 => k_is)
  (case a17 => k_is); (case l17 => k_is); (case c17 => k_is); (case k17 => k_is)
  (case a18 => k_is); (case l18 => k_is); (case c18 => k_is); (case k18 => k_is)
  (case a19 => k_is); (case l19 => k_is); (case c19 => k_is); (case k19 => k_is)
  (case a20 => k_is); (case l20 => k_is); (case c20 => k_is); (case k20 => k_is)
  (case a21 => k_is); (case l21 => k_is); (case c21 => k_is); (case k21 => k_is)
  (case z0 => k_is)
  (case z1 => k_is)
  (case z2 => k_is)
  (case z3 => k_is)
  (case z4 => k_is)
  (case z5 => k_is)
  (case z6 => k_is)
  (case z7 => k_is)
  (case z8 => k_is)
  (case z9 => k_is)
  (case z10 => k_is)
  (case z11 => k_is)
  (case xa0 => k_is); (case xg0 => k_is); (case xh0 => k_is); (case xf0 => k_is); (case xm0 => k_is); (case xt0 => k_is); (case xb0 => k_is)
  (case xa1 => k_is); (case xg1 => k_is); (case xh1 => k_is); (case xf1 => k_is); (case xm1 => k_is); (case xt1 => k_is); (case xb1 => k_is)
  (case xa2 => k_is); (case xg2 => k_is); (case xh2 => k_is); (case xf2 => k_is); (case xm2 => k_is); (case xt2 => k_is); (case xb2 => k_is)
  (case xa3 => k_is); (case xg3 => k_is); (case xh3 => k_is); (case xf3 => k_is); (case xm3 => k_is); (case xt3 => k_is); (case xb3 => k_is)
  (case xe0 => kernel_rfl); (case xv0 => kernel_rfl)
  (case xk0_0 => kernel_rfl); (case xx0_0 => kernel_rfl)
  (case xk0_1 => kernel_rfl)
  (case xk0_2 => kernel_rfl)
  (case xk0_3 => kernel_rfl)
  (case xe1 => kernel_rfl); (case xv1 => kernel_rfl)
  (case xk1_0 => kernel_rfl); (case xx1_0 => kernel_rfl)
  (case xk1_1 => kernel_rfl); (case xx1_1 => kernel_rfl)
  (case xk1_2 => kernel_rfl)
  (case xk1_3 => kernel_rfl)
  (case xe2 => kernel_rfl); (case xv2 => kernel_rfl)
  (case xk2_0 => kernel_rfl); (case xx2_0 => kernel_rfl)
  (case xk2_1 => kernel_rfl)
  (case xk2_2 => kernel_rfl); (case xx2_2 => kernel_rfl)
  (case xk2_3 => kernel_rfl)
  (case xe3 => kernel_rfl); (case xv3 => kernel_rfl)
  (case xk3_0 => kernel_rfl); (case xx3_0 => kernel_rfl)
  (case xk3_1 => kernel_rfl)
  (case xk3_2 => kernel_rfl)
  (case xk3_3 => kernel_rfl); (case xx3_3 => kernel_rfl)
  (case xs0 => k_is); (case xs1 => k_is)
  (case ycon0 => k_is)
end

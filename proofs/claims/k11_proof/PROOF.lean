import PyProof.Rows.All
import Wide.All
import OpenK.AllK
import Wide.FinOn
import Lean
import PyProof.EqAt
import PyProof.EqKinds
import PyProof.TupleCall
import PyProof.ExcAttrAll.ValueError
import PyProof.ZipIter
import PyProof.TupleIter
import PyProof.P3In
import PyProof.Rows.SeqMore2
import PyProof.FactsAll.tuple_3
import PyProof.FactsAll.list_3
import PyProof.Rows.Range3
import KE.KRevIter
import PyProof.Rows.FactsT2
import PySem.Builtin.Int.W1All
import PyProof.SetScanFacts
import PyProof.SetKind
import PyProof.DictKinds
import PyProof.DictStraight
import PyProof.Rows.SetFrom
import PyProof.CollectWalk
import PyProof.Seq
import PyProof.DictIter
import PyProof.Rows.Tup
import PyProof.FactsAll.set_1
import PyProof.FactsAll.set_2
import PyProof.Rows.SortWalk
import PyProof.ConsumeWalk
import PyProof.Rows.SumAny
import PySem.Syntax
import PySem.Eval
import PyProof.DictTable
import PyProof.ListRange
import PyProof.EnumMake
import PySem.Challenge.RW_talkleast_k11_plans_made
set_option Elab.async false
set_option linter.all false
set_option bootstrap.genMatcherCode false
set_option genSizeOfSpec false
set_option compiler.extract_closed false
set_option maxRecDepth 100000
set_option maxHeartbeats 4000000
section
namespace L2
open PySem PySem.Spec PyProof.Rows
noncomputable abbrev Key := Sum Int Str
noncomputable def z3k : Key -> Value -> Bool
 | .inl k, v => Value.isInt k v
 | .inr x, v => Value.isStrOf x v
noncomputable def keyH (w : World) : Key -> Int
 | .inl k => hashInt k
 | .inr x => hashStr w x
theorem q0Z : ∀ {k : Key} {v : Value}, z3k k v = true -> (∃ i t, k = Sum.inl i /\ v = Value.int i t) \/ (∃ x t, k = Sum.inr x /\ v = Value.str x t)
 | .inl i, v, h => by
  obtain ⟨t, e⟩ := Value.isInt_shape (k := i) (v := v) h
  exact .inl ⟨i, t, rfl, e⟩
 | .inr x, v, h => by
  obtain ⟨t, e⟩ := Value.isStrOf_shape (x := x) (v := v) h
  exact .inr ⟨x, t, rfl, e⟩
theorem z3B (a b : Int) : decide ((Sum.inl a : Key) = Sum.inl b) = (a == b) := by
 by_cases e : a = b
 ·subst e; simp
 ·have h : ¬ (Sum.inl a : Key) = Sum.inl b := λ q => e (Sum.inl.inj q)
  rw [decide_eq_false h]
  exact (beq_eq_false_iff_ne.mpr e).symm
theorem z3z (a b : Str) : decide ((Sum.inr a : Key) = Sum.inr b) = decide (a = b) := by
 by_cases e : a = b
 ·subst e; simp
 ·have h : ¬ (Sum.inr a : Key) = Sum.inr b := λ q => e (Sum.inr.inj q)
  rw [decide_eq_false h, decide_eq_false e]
theorem z3H (a : Int) (b : Str) : decide ((Sum.inl a : Key) = Sum.inr b) = false := decide_eq_false (λ q => nomatch q)
theorem z3u (a : Str) (b : Int) : decide ((Sum.inr a : Key) = Sum.inl b) = false := decide_eq_false (λ q => nomatch q)
noncomputable def q6g (prog : Program) (w : World) : PySem.KeyKind prog w Key where
 is := z3k
 hash := keyH w
 inj := λ v a b ha hb => by
  rcases q0Z ha with ⟨i, t, rfl, rfl⟩ | ⟨x, t, rfl, rfl⟩
  ·rcases q0Z hb with ⟨j, u, rfl, e⟩ | ⟨y, u, rfl, e⟩
   ·injection e with e1 _; rw [e1]
   ·exact nomatch e
  ·rcases q0Z hb with ⟨j, u, rfl, e⟩ | ⟨y, u, rfl, e⟩
   ·exact nomatch e
   ·injection e with e1 _; rw [e1]
 byValue := λ k v h => by
  rcases q0Z h with ⟨i, t, rfl, rfl⟩ | ⟨x, t, rfl, rfl⟩ <;> rfl
 pyHash := λ hv h => by
  rcases q0Z hv with ⟨i, t, rfl, rfl⟩ | ⟨x, t, rfl, rfl⟩
  ·exact wpAny_pyHash_int h
  ·exact wpAny_pyHash_str h
 eqBool := λ hu hv h => by
  rcases q0Z hu with ⟨i, t, rfl, rfl⟩ | ⟨x, t, rfl, rfl⟩
  ·rcases q0Z hv with ⟨j, u, rfl, rfl⟩ | ⟨y, u, rfl, rfl⟩
   ·rw [z3B] at h; exact wpAny_eqBool_int h
   ·rw [z3H] at h; exact SeqAt.EqAt.int_str i t y u _ _ _ _ h
  ·rcases q0Z hv with ⟨j, u, rfl, rfl⟩ | ⟨y, u, rfl, rfl⟩
   ·rw [z3u] at h; exact SeqAt.EqAt.str_int x t j u _ _ _ _ h
   ·rw [z3z] at h; exact wpAny_eqBool_str h
 «strs» := λ k x t v h => by
  rcases q0Z h with ⟨i, u, rfl, e⟩ | ⟨y, u, rfl, e⟩
  ·exact nomatch e
  ·injection e with e1 _
   subst e1
   cases v <;> rfl
end L2
namespace L2
open PySem PySem.Spec PyProof.Rows
inductive V where
 | non | bl (b : Bool) | int (i : Int) | str (x : Str) | byt (b : Array UInt8) | flt (b : UInt64) | ref (a : Addr) | ty (n : String)
 deriving DecidableEq
noncomputable def RelV : V -> Value -> Prop
 | .non, u => u = Value.none
 | .bl b, u => u = Value.bool b
 | .int i, u => ∃ t, u = Value.int i t
 | .str x, u => ∃ t, u = Value.str x t
 | .byt b, u => ∃ t, u = Value.bytes b t
 | .flt b, u => ∃ t, u = Value.float b t
 | .ref a, u => u = Value.ref a
 | .ty n, u => u = Value.type n
noncomputable abbrev Vals : List V -> List Value -> Prop := Paired RelV
theorem Vals.length {xs : List V} {us : List Value} (r : Vals xs us) : xs.length = us.length := Paired.length r
theorem Vals.get : ∀ {xs : List V} {us : List Value} {i : Nat} {x : V}, Vals xs us -> xs[i]? = some x -> ∃ u, us[i]? = some u /\ RelV x u
 | _, _, _, _, .nil, e => by simp at e
 | _, _, 0, _, .cons r _, e => by simp at e; subst e; exact ⟨_, rfl, r⟩
 | _, _, i + 1, x, .cons _ t, e => by
  obtain ⟨u, h1, h2⟩ := Vals.get (i := i) (x := x) t (by simpa using e)
  exact ⟨u, by simpa using h1, h2⟩
theorem Vals.set {x : V} {u : Value} (r : RelV x u) : ∀ {xs : List V} {us : List Value} (i : Nat), Vals xs us -> Vals (xs.set i x) (us.set i u)
 | _, _, _, .nil => .nil
 | _, _, 0, .cons _ t => .cons r t
 | _, _, i + 1, .cons q t => .cons q (Vals.set r i t)
theorem Vals.append : ∀ {xs ys : List V} {us ws : List Value}, Vals xs us -> Vals ys ws -> Vals (xs ++ ys) (us ++ ws)
 | _, _, _, _, .nil, s => s
 | _, _, _, _, .cons r t, s => .cons r (Vals.append t s)
theorem Vals.take : ∀ {xs : List V} {us : List Value} (n : Nat), Vals xs us -> Vals (xs.take n) (us.take n)
 | _, _, 0, _ => .nil
 | _, _, _ + 1, .nil => .nil
 | _, _, n + 1, .cons r t => .cons r (Vals.take n t)
theorem Vals.drop : ∀ {xs : List V} {us : List Value} (n : Nat), Vals xs us -> Vals (xs.drop n) (us.drop n)
 | _, _, 0, r => r
 | _, _, _ + 1, .nil => .nil
 | _, _, n + 1, .cons _ t => Vals.drop n t
noncomputable def RelO : Option V -> Option Value -> Prop
 | some v, some u => RelV v u
 | none, none => True
 | _, _ => False
noncomputable def KV {κ : Type} : List (κ × V) -> List (κ × Value) -> Prop := Paired λ (p : κ × V) (q : κ × Value) => p.1 = q.1 /\ RelV p.2 q.2
noncomputable def kV : Key -> V
 | .inl i => .int i
 | .inr x => .str x
inductive HO where
 | lst (xs : List V)
 | tup (xs : List V)
 | dK (kvs : List (Key × V)) | dT (kvs : List (List Key × V))
 | set (S : Int -> Bool) (n : Nat)
 | ins (C dx : Addr) (fs : List (Str × V))
 | own (x : Addr)
 | xd (fs : List (Str × V))
 | met (f x : Addr)
 | rng (lo hi : Int)
 | frz (o : Obj) (u : HO)
 | tbl (ps : Array Value)
 | ext (φ : Heap -> Prop)
noncomputable abbrev Hp := Addr -> Option HO
noncomputable def upd (H : Hp) (a : Addr) (o : HO) : Hp := λ b => if b = a then some o else H b
theorem q0Q {H : Hp} {a : Addr} {o : HO} : upd H a o a = some o := by unfold upd; rw [if_pos rfl]
theorem q0v {H : Hp} {a b : Addr} {o : HO} (h : b ≠ a) : upd H a o b = H b := by unfold upd; rw [if_neg h]
theorem q0y {H : Hp} {a b : Addr} {o : HO} (h : H a = some o) (h' : H b = none) : a ≠ b := by
 intro e; subst e; rw [h] at h'; cases h'
noncomputable def q3m (h : Heap) (a : Addr) (items : Array Value) : Prop := ∃ o, h.get? a = some o /\ (o.cls = .type "tuple" /\ o.dict = none) /\ ∃ n, o.data = .seq items n
theorem q3m.tup {h : Heap} {a items} (x : q3m h a items) : IsTup h a items := let ⟨o, ho, hc, r⟩ := x; ⟨o, ho, hc.1, r⟩
theorem q3m.lt {h : Heap} {a items} (x : q3m h a items) : a < h.objs.size := let ⟨_, ho, _⟩ := x; Heap.lt_size ho
theorem q3m.new (h : Heap) (items : Array Value) : q3m (h.push { cls := .type "tuple", data := .seq items }) h.objs.size items := ⟨_, Heap.get?_push_size _ rfl, ⟨rfl, rfl⟩, _, rfl⟩
section
variable (P : Program) (w : World)
noncomputable def q1K (H : Hp) (h : Heap) (a : Addr) : HO -> Prop
 | .lst xs => xs.length <= sizeLine /\ ∃ (its : List Value) (n : Nat), Vals xs its /\ h.get? a = some { cls := .type "list", data := .seq its.toArray n }
 | .tup xs => xs.length <= sizeLine /\ ∃ its : List Value, Vals xs its /\ q3m h a its.toArray
 | .dK kvs => kvs.length <= sizeLine /\ (a == sysModules) = false /\ ∃ vs, KV kvs vs /\ h.DictOf (q6g P w) a vs
 | .dT kvs => kvs.length <= sizeLine /\ (a == sysModules) = false /\ ∃ xs : List (List Key × Addr × Value),
   Paired (λ (p : List Key × V) (q : List Key × Addr × Value) => p.1 = q.1 /\ H q.2.1 = some (.tup (p.1.map kV)) /\ RelV p.2 q.2.2) kvs xs /\
   ∃ o es ep, h.get? a = some o /\ o.ExactDict /\ o.data = .dict es ep /\ es.toList = xs.map (entryOfKey (tupleKind (q6g P w))) /\ (xs.map (·.1)).Nodup
 | .set S n => h.SetOf (intKind P w) a S n
 | .ins C dx fs => H dx = some (.own a) /\ fs.length <= 1000 /\ dx ≠ a /\ h.get? a = some (PySem.W.instObj C dx) /\
   ∃ mA, h.Ns1 dx mA /\ (∀ f, RelO (fs.lookup f) (mA f)) /\ PySem.Within mA (fs.map (·.1))
 | .own _ => ∃ o, h.get? a = some o
 | .xd fs => ∃ mA, h.Ns1 a mA /\ ∀ f, RelO (fs.lookup f) (mA f)
 | .rng lo hi => ∃ t u v, h.get? a = some { cls := .type "range", data := .fields #[.int lo t, .int hi u, .int 1 v] }
 | .frz o u => h.get? a = some o /\ q1K H h a u
 | .tbl ps => h.get? a = some { cls := .none, data := .fields ps }
 | .met f x => h.get? a = some (PySem.W.methodObj (.ref f) (.ref x))
 | .ext φ => φ h /\ (∃ o, h.get? a = some o) /\ ∀ h1 h2 : Heap, φ h1 -> (∀ o, h1.get? a = some o -> h2.get? a = some o) -> φ h2
noncomputable def HOk (H : Hp) (h : Heap) : Prop := ∀ a o, H a = some o -> q1K P w H h a o
end
section
variable {P : Program} {w : World} {H H' : Hp} {h h' : Heap} {a : Addr} {o : HO}
theorem q1K.lt (x : q1K P w H h a o) : a < h.objs.size := by
 cases o with
 | lst xs => obtain ⟨_, _, _, _, e⟩ := x; exact Heap.lt_size e
 | tup xs => obtain ⟨_, _, _, p⟩ := x; exact p.lt
 | dK kvs => obtain ⟨_, _, _, _, o, _, _, e, _⟩ := x; exact Heap.lt_size e
 | dT kvs => obtain ⟨_, _, _, _, o, _, _, e, _⟩ := x; exact Heap.lt_size e
 | set S n => obtain ⟨o, _, _, _, e, _⟩ := x; exact Heap.lt_size e
 | ins C dx fs => obtain ⟨_, _, _, e, _⟩ := x; exact Heap.lt_size e
 | own y => obtain ⟨_, e⟩ := x; exact Heap.lt_size e
 | xd fs => obtain ⟨_, ⟨_, _, _, e, _⟩, _⟩ := x; exact Heap.lt_size e
 | rng lo hi => obtain ⟨_, _, _, e⟩ := x; exact Heap.lt_size e
 | frz ob u => obtain ⟨e, _⟩ := x; exact Heap.lt_size e
 | tbl ps => exact Heap.lt_size (show h.get? a = some _ from x)
 | met f y => exact Heap.lt_size (show h.get? a = some _ from x)
 | ext φ => obtain ⟨_, ⟨_, e⟩, _⟩ := x; exact Heap.lt_size e
theorem Paired.mapP {α β : Type} {F G : α -> β -> Prop} : ∀ {l₁ : List α} {l₂ : List β}, Paired F l₁ l₂ -> (∀ a b, F a b -> G a b) -> Paired G l₁ l₂
 | _, _, .nil, _ => .nil
 | _, _, .cons r t, f => .cons (f _ _ r) (Paired.mapP t f)
theorem q1K.stay (x : q1K P w H h a o) (k : ∀ b u, (b = a \/ H b = some (.own a)) -> h.get? b = some u -> h'.get? b = some u)
  (ho : ∀ b, H b = some (.own a) -> H' b = some (.own a)) (ht : ∀ b xs, H b = some (.tup xs) -> H' b = some (.tup xs)) : q1K P w H' h' a o := by
 induction o with
 | lst xs => obtain ⟨z, its, n, r, e⟩ := x; exact ⟨z, its, n, r, k _ _ (.inl rfl) e⟩
 | tup xs => obtain ⟨z, its, r, ob, e, c⟩ := x; exact ⟨z, its, r, ob, k _ _ (.inl rfl) e, c⟩
 | dK kvs => obtain ⟨z, y, vs, r, ob, es, ep, e, c⟩ := x; exact ⟨z, y, vs, r, ob, es, ep, k _ _ (.inl rfl) e, c⟩
 | dT kvs =>
  obtain ⟨z, y, xs, r, ob, es, ep, e, c⟩ := x
  exact ⟨z, y, xs, Paired.mapP r λ p q z => ⟨z.1, ht _ _ z.2.1, z.2.2⟩, ob, es, ep, k _ _ (.inl rfl) e, c⟩
 | set S n => obtain ⟨ob, es, ep, t, e, c⟩ := x; exact ⟨ob, es, ep, t, k _ _ (.inl rfl) e, c⟩
 | ins C dx fs =>
  obtain ⟨d, z, ne, e, mA, ⟨od, es, ep, e2, c⟩, r⟩ := x
  exact ⟨ho _ d, z, ne, k _ _ (.inl rfl) e, mA, ⟨od, es, ep, k _ _ (.inr d) e2, c⟩, r⟩
 | own y => obtain ⟨ob, e⟩ := x; exact ⟨ob, k _ _ (.inl rfl) e⟩
 | xd fs => obtain ⟨mA, ⟨od, es, ep, e, c⟩, r⟩ := x; exact ⟨mA, ⟨od, es, ep, k _ _ (.inl rfl) e, c⟩, r⟩
 | rng lo hi => obtain ⟨t, u, v, e⟩ := x; exact ⟨t, u, v, k _ _ (.inl rfl) e⟩
 | frz ob u ih => obtain ⟨e, q⟩ := x; exact ⟨k _ _ (.inl rfl) e, ih q⟩
 | tbl ps =>
  have e : h.get? a = some { cls := .none, data := .fields ps } := x
  show h'.get? a = some { cls := .none, data := .fields ps }
  exact k a _ (.inl rfl) e
 | met f y =>
  have e : h.get? a = some (PySem.W.methodObj (.ref f) (.ref y)) := x
  show h'.get? a = some (PySem.W.methodObj (.ref f) (.ref y))
  exact k a _ (.inl rfl) e
 | ext φ => obtain ⟨p, ⟨o, e⟩, st⟩ := x; exact ⟨st _ _ p λ o q => k _ _ (.inl rfl) q, ⟨o, k _ _ (.inl rfl) e⟩, st⟩
theorem HOk.lt (x : HOk P w H h) (e : H a = some o) : a < h.objs.size := (x a o e).lt
theorem HOk.fresh (x : HOk P w H h) (e : h.objs.size <= a) : H a = none := by
 cases q : H a with
 | none => rfl
 | some u => exact absurd (Nat.lt_of_lt_of_le (x.lt q) e) (Nat.lt_irrefl _)
theorem HOk.kept (x : HOk P w H h) (k : ∀ b u, h.get? b = some u -> h'.get? b = some u) : HOk P w H h' := λ a o e =>
 (x a o e).stay (λ b u _ q => k b u q) (λ _ q => q) λ _ _ q => q
theorem HOk.laid (x : HOk P w H h) (k : ∀ b u, h.get? b = some u -> h'.get? b = some u) (hp : h.objs.size <= a) (new : q1K P w (upd H a o) h' a o) : HOk P w (upd H a o) h' := λ b u e => by
 have hn := x.fresh hp
 by_cases hb : b = a
 ·subst hb; rw [q0Q] at e; cases e; exact new
 ·rw [q0v hb] at e
  exact (x b u e).stay (λ c v _ q => k c v q) (λ c q => by rw [q0v (q0y q hn)]; exact q) λ c xs q => by rw [q0v (q0y q hn)]; exact q
end
noncomputable def Rd (H : Hp) (a : Addr) (u : HO) : Prop := H a = some u \/ ∃ o, H a = some (.frz o u)
theorem Rd.ok {P : Program} {w : World} {H : Hp} {h : Heap} {a : Addr} {u : HO} (r : Rd H a u) (x : HOk P w H h) : q1K P w H h a u := by
 rcases r with r | ⟨o, r⟩
 ·exact x a u r
 ·obtain ⟨_, q⟩ := x a _ r
  exact q
noncomputable def Mut : Option HO -> Prop
 | some (.lst _) => True
 | some (.dK _) => True
 | some (.dT _) => True
 | some (.set _ _) => True
 | some (.ins _ _ _) => True
 | some (.ext _) => True
 | _ => False
section
variable {P : Program} {w : World} {H : Hp} {h h' : Heap} {x e : Addr} {o' : HO}
theorem HOk.write (ok : HOk P w H h) (mu : Mut (H x)) (he : e = x \/ H e = some (.own x)) (k : ∀ b u, b ≠ e -> h.get? b = some u -> h'.get? b = some u) (heo : ∃ u, h'.get? e = some u)
  (new : q1K P w (upd H x o') h' x o') : HOk P w (upd H x o') h' := λ b u q => by
 have nown : ∀ c y, H c = some (.own y) -> c ≠ x := λ c y r z => by subst z; rw [r] at mu; exact mu
 have ntup : ∀ c xs, H c = some (.tup xs) -> c ≠ x := λ c xs r z => by subst z; rw [r] at mu; exact mu
 by_cases hb : b = x
 ·subst hb; rw [q0Q] at q; cases q; exact new
 ·rw [q0v hb] at q
  by_cases hbe : b = e
  ·have q' : H b = some (.own x) := by
    rcases he with z | z
    ·exact absurd (hbe.trans z) hb
    ·rw [hbe]; exact z
   rw [q] at q'; cases q'
   obtain ⟨v, hv⟩ := heo
   exact ⟨v, by rw [hbe]; exact hv⟩
  ·refine (ok b u q).stay (λ c v hc r => k c v ?_ r) (λ c r => by rw [q0v (nown c b r)]; exact r) λ c xs r => by rw [q0v (ntup c xs r)]; exact r
   rcases hc with rfl | hc
   ·exact hbe
   ·rintro rfl
    rcases he with z | z
    ·exact nown c b hc z
    ·rw [hc] at z; cases z; exact hb rfl
end
structure Un (fs ex : List Addr) (H H' : Hp) (h h' : Heap) : Prop where
 keep : ∀ b o, h.get? b = some o -> H b = none -> b ∉ fs -> b ∉ ex -> h'.get? b = some o
 slot : ∀ b o, h.get? b = some o -> H b = none -> b ∈ fs -> b ∉ ex -> ∃ sl, h'.get? b = some { o with slots := sl }
 free : ∀ b o, h.get? b = some o -> H b = none -> b ∉ ex -> H' b = none
 there : ∀ b o, h.get? b = some o -> b ∉ ex -> ∃ o', h'.get? b = some o'
 tups : ∀ b xs, H b = some (.tup xs) -> H' b = some (.tup xs)
 frzs : ∀ b o u, H b = some (.frz o u) -> H' b = some (.frz o u)
 tbls : ∀ b ps, H b = some (.tbl ps) -> ∃ more, H' b = some (.tbl (ps ++ more))
section
variable {fs fs' ex ex' : List Addr} {H H1 H2 : Hp} {h h1 h2 h' : Heap} {a x e : Addr} {o : HO}
theorem Un.any (u : Un fs ex H H1 h h1) {b : Addr} {ob : Obj} (q : h.get? b = some ob) (n : H b = none) (hx : b ∉ ex) : ∃ sl, h1.get? b = some { ob with slots := sl } := by
 by_cases hb : b ∈ fs
 ·exact u.slot b ob q n hb hx
 ·exact ⟨ob.slots, u.keep b ob q n hb hx⟩
theorem Un.kept (k : ∀ b u, h.get? b = some u -> h'.get? b = some u) : Un fs ex H H h h' :=
 ⟨λ b ob q _ _ _ => k b ob q, λ b ob q _ _ _ => ⟨ob.slots, k b ob q⟩, λ _ _ _ n _ => n, λ b ob q _ => ⟨ob, k b ob q⟩, λ _ _ q => q, λ _ _ _ q => q, λ _ ps q => ⟨#[], by rw [q]; simp⟩⟩
theorem Un.refl : Un fs ex H H h h := Un.kept λ _ _ q => q
theorem Un.laid (k : ∀ b u, h.get? b = some u -> h'.get? b = some u) (hp : h.objs.size <= a) (hn : H a = none) : Un fs ex H (upd H a o) h h' where
 keep := λ b u q _ _ _ => k b u q
 slot := λ b u q _ _ _ => ⟨u.slots, k b u q⟩
 free := λ b u q n _ => by rw [q0v (Nat.ne_of_lt (Nat.lt_of_lt_of_le (Heap.lt_size q) hp))]; exact n
 there := λ b u q _ => ⟨u, k b u q⟩
 tups := λ b xs q => by rw [q0v (q0y q hn)]; exact q
 frzs := λ b u xs q => by rw [q0v (q0y q hn)]; exact q
 tbls := λ b ps q => ⟨#[], by rw [q0v (q0y q hn), q]; simp⟩
theorem Un.write (mu : Mut (H x)) (he : e = x \/ H e = some (.own x)) (k : ∀ b u, b ≠ e -> h.get? b = some u -> h'.get? b = some u) (heo : ∃ u, h'.get? e = some u) : Un fs ex H (upd H x o) h h' := by
 have hx : ∀ b, H b = none -> b ≠ x := λ b n z => by subst z; rw [n] at mu; exact mu
 have hb : ∀ b, H b = none -> b ≠ e := λ b n z => by
  subst z
  rcases he with r | r
  ·exact hx b n r
  ·rw [n] at r; cases r
 have hm : ∀ b u, H b = some u -> ¬ Mut (some u) -> b ≠ x := λ b u q nm z => by subst z; rw [q] at mu; exact nm mu
 refine ⟨λ b u q n _ _ => k b u (hb b n) q, λ b u q n _ _ => ⟨u.slots, k b u (hb b n) q⟩, λ b u q n _ => by rw [q0v (hx b n)]; exact n, λ b u q _ => ?_,
  λ b xs q => by rw [q0v (hm b _ q λ z => z)]; exact q, λ b u xs q => by rw [q0v (hm b _ q λ z => z)]; exact q, λ b ps q => ⟨#[], by rw [q0v (hm b _ q λ z => z), q]; simp⟩⟩
 by_cases hbe : b = e
 ·subst hbe; exact heo
 ·exact ⟨u, k b u hbe q⟩
end
noncomputable def trk (h : Heap) (H : Hp) : List Addr := (List.range h.objs.size).filter λ a => (H a).isSome
noncomputable def hidT (h : Heap) (H : Hp) : Heap := PySem.W.hideAll h (trk h H)
theorem q8Q (h : Heap) (H : Hp) : (hidT h H).objs.size = h.objs.size := PySem.W.hideAll_size _ _
theorem q9z {h : Heap} {H : Hp} {b : Addr} {o : Obj} (e : h.get? b = some o) (n : H b = none) : (hidT h H).get? b = some o :=
 PySem.W.hideAll_get _ e λ hm => by
  have q : (H b).isSome = true := (List.mem_filter.mp hm).2
  rw [n] at q; simp at q
theorem z1u {h : Heap} {H : Hp} {b : Addr} {o : Obj} (e : (hidT h H).get? b = some o) : h.get? b = some o /\ H b = none := by
 have e' : h.get? b = some o := PySem.W.of_hideAll (trk h H) e
 refine ⟨e', ?_⟩
 cases q : H b with
 | none => rfl
 | some x =>
  have hm : b ∈ trk h H := List.mem_filter.mpr ⟨List.mem_range.mpr (Heap.lt_size e'), by simp [q]⟩
  have z : (hidT h H).get? b = none := PySem.W.hideAll_none (trk h H) hm
  rw [z] at e; cases e
noncomputable def z1k (g h : Heap) (L : Addr) : List (Addr × Obj) := (List.range h.objs.size).filterMap λ a => if a = L \/ (g.get? a).isSome = true then none else (h.get? a).map λ o => (a, o)
noncomputable def rest (g h : Heap) (L d : Addr) : List (Addr × Obj) := (z1k g h L).filter λ p => decide (p.1 ≠ d)
end L2
namespace L2
open PySem PySem.Spec PyProof.Rows
structure Mod (K : PySem.W.Frag) (mg : Str -> Option Value) (base : Heap) : Prop where
 kin : K.In base
 glob : base.Ns mainGlobals mg
 blt : ∃ mb, base.Ns builtinsNs mb /\ ∀ x : Str, x ≠ "__name__" -> mb x = bootBuiltins x
 nolimit : base.NoLimit
structure Cx where
 prog : Program
 w : World
 K : PySem.W.Frag
 mg : Str -> Option Value
 base : Heap
 A : Around
 N : List Str
 s₀ : Shared
 H₀ : Hp
 env : Env
 outer : List Env
 stack : List Env
 ex : List Addr
 fn : Str -> Bool
 calm : Bool
 pn : List (Addr × Obj)
 xe : Value -> Shared -> Prop
noncomputable def frs (l : List Env) : List Addr := l.filterMap (·.frame)
noncomputable abbrev Cx.fs (X : Cx) : List Addr := frs X.outer
noncomputable def Vis (sc : Scope) (x : Str) : Prop := sc.names.lookup x = some .local \/ sc.names.lookup x = some .cell \/ sc.names.lookup x = some .free
noncomputable def Loc (sc : Scope) (x : Str) : Prop := sc.names.lookup x = some .local \/ sc.names.lookup x = some .cell
noncomputable def Look (env : Env) (h : Heap) (m : Str -> Option Value) (x : Str) (u : Value) : Prop :=
 (env.kindOf x = some .local /\ m x = some u) \/ ((env.kindOf x = some .cell \/ env.kindOf x = some .free) /\ ∃ c, env.cells.lookup x = some c /\ h.IsCell c (some u))
structure Cx.Ok (X : Cx) : Prop where
 mod : Mod X.K X.mg X.base
 kind : X.env.scope.kind = .function
 glob : X.env.globals = mainGlobals
 blt : X.env.builtins = builtinsNs
 above : X.s₀.heap.objs.size <= X.env.locals
 inj : ∀ x y c, X.env.cells.lookup x = some c -> X.env.cells.lookup y = some c -> x = y
 has : ∀ x, (X.env.kindOf x = some .cell \/ X.env.kindOf x = some .free) -> ∃ c, X.env.cells.lookup x = some c
 cab : ∀ x c, X.fn x = true -> X.env.cells.lookup x = some c -> X.s₀.heap.objs.size <= c
 hd : X.calm = true -> X.A.handled = none
 frames : X.A.frames = some X.stack
 stk : X.stack = X.outer \/ (X.stack = X.env :: X.outer /\ X.env.frame = some X.env.locals)
 exf : ∀ b ∈ X.ex, b ≠ X.env.locals /\ ∀ x c, X.env.cells.lookup x = some c -> c ≠ b
 bs : ∀ b o, X.base.get? b = some o -> X.s₀.heap.get? b = some o /\ X.H₀ b = none
 bsz : X.base.objs.size <= X.s₀.heap.objs.size
 noex : ∀ b o, X.base.get? b = some o -> b ∉ X.ex
 exfs : ∀ b ∈ X.ex, b ∉ X.fs
 funs : X.s₀.heap.FunFrames X.base X.outer
 frf : ∀ b ∈ X.fs, X.H₀ b = none
structure Inv (X : Cx) (pins : List (Addr × Obj)) (σ : List (Option V)) (H : Hp) (s : Shared) : Prop where
 ok : X.Ok
 os : s.os = X.s₀.os
 bare : AllBare s.gens
 base : Un X.fs X.ex X.H₀ H X.s₀.heap s.heap
 loc : ∃ m, s.heap.Ns X.env.locals m /\ ∀ (i : Nat) (x : Str) (v : V), X.N[i]? = some x -> σ[i]? = some (some v) -> Vis X.env.scope x -> ∃ u, RelV v u /\ Look X.env s.heap m x u
 cell : ∀ x c, X.env.cells.lookup x = some c -> ∃ v, s.heap.IsCell c v
 free : H X.env.locals = none
 freeC : ∀ x c, X.env.cells.lookup x = some c -> H c = none
 pin : ∀ p ∈ X.pn ++ pins, s.heap.get? p.1 = some p.2 /\ H p.1 = none /\ p.1 ≠ X.env.locals /\ p.1 ∉ X.fs /\ ∀ v, p.2.data ≠ .cell v
 hok : HOk X.prog X.w H s.heap
 len : σ.length = X.N.length
section
variable {X : Cx} {pins : List (Addr × Obj)} {σ : List (Option V)} {H H' : Hp} {s : Shared} {h' : Heap}
theorem Cx.Ok.nofr (ok : X.Ok) {b : Addr} {o : Obj} (e : X.base.get? b = some o) : b ∉ X.fs := λ hb => by
 have := (ok.funs.mem hb).1
 rw [e] at this; cases this
theorem Inv.bs (I : Inv X pins σ H s) : ∀ b o, X.base.get? b = some o -> s.heap.get? b = some o /\ H b = none := λ b o e =>
 ⟨I.base.keep b o (I.ok.bs b o e).1 (I.ok.bs b o e).2 (I.ok.nofr e) (I.ok.noex b o e), I.base.free b o (I.ok.bs b o e).1 (I.ok.bs b o e).2 (I.ok.noex b o e)⟩
theorem Inv.bk (I : Inv X pins σ H s) : ∀ b o, X.base.get? b = some o -> s.heap.get? b = some o := λ b o e => (I.bs b o e).1
theorem Inv.mod (I : Inv X pins σ H s) : Mod X.K X.mg X.base := I.ok.mod
theorem Inv.kIn (I : Inv X pins σ H s) : X.K.In s.heap := I.ok.mod.kin.keeps I.bk
theorem Inv.lt (I : Inv X pins σ H s) : X.env.locals < s.heap.objs.size := let ⟨_, hn, _⟩ := I.loc; hn.lt
theorem Inv.sz (I : Inv X pins σ H s) : X.s₀.heap.objs.size <= s.heap.objs.size := Nat.le_trans I.ok.above (Nat.le_of_lt I.lt)
theorem Inv.nofs (I : Inv X pins σ H s) {a : Addr} (h : s.heap.objs.size <= a) : a ∉ X.fs := λ hb => by
 obtain ⟨_, o, ho, _⟩ := I.ok.funs.mem hb
 exact absurd (Nat.lt_of_lt_of_le (Heap.lt_size ho) (Nat.le_trans I.sz h)) (Nat.lt_irrefl _)
theorem Inv.cne (I : Inv X pins σ H s) : ∀ x c, X.env.cells.lookup x = some c -> c ≠ X.env.locals := λ x c e z => by
 obtain ⟨v, o, ho, hd⟩ := I.cell x c e
 obtain ⟨m, ⟨o', es, ep, ho', hd', _⟩, _⟩ := I.loc
 rw [z, ho'] at ho; cases ho; rw [hd'] at hd; cases hd
theorem Inv.funs (I : Inv X pins σ H s) : s.heap.FunFrames X.base X.outer := by
 have all : ∀ (l : List Env), (∀ b ∈ frs l, b ∈ X.fs) -> X.s₀.heap.FunFrames X.base l -> s.heap.FunFrames X.base l := by
  intro l
  induction l with
  | nil => intro _ _; trivial
  | cons env r ih =>
   intro hs hl
   obtain ⟨hk, ⟨L, o, hf, hn, ho, hd⟩, hr⟩ := hl
   have hL : L ∈ X.fs := hs L (by unfold frs; rw [List.filterMap_cons, hf]; exact List.mem_cons_self)
   obtain ⟨sl, e⟩ := I.base.slot L o ho (I.ok.frf L hL) hL λ z => I.ok.exfs L z hL
   exact ⟨hk, ⟨L, _, hf, hn, e, hd⟩, ih (λ b hb => hs b (by unfold frs; rw [List.filterMap_cons, hf]; exact List.mem_cons_of_mem _ hb)) hr⟩
 exact all X.outer (λ _ hb => hb) I.ok.funs
theorem Inv.stack (I : Inv X pins σ H s) : s.heap.FunFrames X.base X.stack := by
 rcases I.ok.stk with e | ⟨e, hf⟩
 ·rw [e]; exact I.funs
 ·rw [e]
  obtain ⟨m, hn, _⟩ := I.loc
  refine .cons (by rw [I.ok.kind]; decide) hf hn ?_ I.funs
  exact Heap.get?_none_of_le (Nat.le_trans I.ok.bsz I.ok.above)
theorem Inv.stkSub (I : Inv X pins σ H s) : ∀ b ∈ frs X.stack, b ∈ X.env.locals :: X.fs := λ b hb => by
 rcases I.ok.stk with e | ⟨e, hf⟩
 ·rw [e] at hb; exact List.mem_cons_of_mem _ hb
 ·rw [e] at hb
  unfold frs at hb
  rw [List.filterMap_cons, hf] at hb
  exact hb
theorem Inv.stkFree (I : Inv X pins σ H s) : ∀ b ∈ frs X.stack, H b = none := λ b hb => by
 rcases List.mem_cons.mp (I.stkSub b hb) with e | hb
 ·rw [e]; exact I.free
 ·obtain ⟨_, o, ho, _⟩ := I.ok.funs.mem hb
  exact I.base.free b o ho (I.ok.frf b hb) λ z => I.ok.exfs b z hb
theorem Inv.step {g' : Array GenState} {t' : Nat} {d' : Drawn} {ch : List Addr} (I : Inv X pins σ H s)
  (hch : ∀ b ∈ ch, (b ∈ X.ex \/ X.s₀.heap.objs.size <= b) /\ b ≠ X.env.locals /\ (∀ x c, X.env.cells.lookup x = some c -> c ≠ b) /\ ∀ p ∈ X.pn ++ pins, p.1 ≠ b)
  (keep : ∀ b o, b ≠ X.env.locals -> b ∉ X.fs -> b ∉ ch -> s.heap.get? b = some o -> H b = none -> h'.get? b = some o)
  (slot : ∀ b o, b ≠ X.env.locals -> b ∈ X.fs -> b ∉ ch -> s.heap.get? b = some o -> H b = none -> ∃ sl, h'.get? b = some { o with slots := sl }) (free : ∀ b o, b ∉ ch -> s.heap.get? b = some o -> H b = none -> H' b = none)
  (there : ∀ b o, b ∉ ch -> s.heap.get? b = some o -> ∃ o', h'.get? b = some o')
  (tups : ∀ b xs, H b = some (.tup xs) -> H' b = some (.tup xs)) (frzs : ∀ b o u, H b = some (.frz o u) -> H' b = some (.frz o u)) (tbls : ∀ b ps, H b = some (.tbl ps) -> ∃ more, H' b = some (.tbl (ps ++ more)))
  (ns : ∀ m, s.heap.Ns X.env.locals m -> h'.Ns X.env.locals m) (hok : HOk X.prog X.w H' h') (hg : AllBare g') :
  Inv X pins σ H' { s with heap := h', gens := g', drawn := d', toks := t' } := by
 have neL : ∀ b o, X.s₀.heap.get? b = some o -> b ≠ X.env.locals := λ b o e => Nat.ne_of_lt (Nat.lt_of_lt_of_le (Heap.lt_size e) I.ok.above)
 have neC : ∀ b o, X.s₀.heap.get? b = some o -> b ∉ X.ex -> b ∉ ch := λ b o e hx hb => by
  rcases (hch b hb).1 with z | z
  ·exact hx z
  ·exact absurd (Nat.lt_of_lt_of_le (Heap.lt_size e) z) (Nat.lt_irrefl _)
 have cellK : ∀ x c, X.env.cells.lookup x = some c -> ∀ v, s.heap.IsCell c v -> h'.IsCell c v := λ x c e v ⟨o, ho, hd⟩ => by
  have nch : c ∉ ch := λ z => (hch c z).2.2.1 x c e rfl
  by_cases hc : c ∈ X.fs
  ·obtain ⟨sl, q⟩ := slot c o (I.cne x c e) hc nch ho (I.freeC x c e)
   exact ⟨_, q, hd⟩
  ·exact ⟨o, keep c o (I.cne x c e) hc nch ho (I.freeC x c e), hd⟩
 refine ⟨I.ok, I.os, hg, ⟨λ b o e n hb hx => ?_, λ b o e n hb hx => ?_, λ b o e n hx => ?_, λ b o e hx => ?_, λ b xs e => tups b xs (I.base.tups b xs e), λ b o xs e => frzs b o xs (I.base.frzs b o xs e), λ b ps e => ?_⟩, ?_, λ x c e => ?_, ?_, λ x c e => ?_, λ p hp => ?_, hok, I.len⟩
 ·exact keep b o (neL b o e) hb (neC b o e hx) (I.base.keep b o e n hb hx) (I.base.free b o e n hx)
 ·obtain ⟨sl, e1⟩ := I.base.slot b o e n hb hx
  obtain ⟨sl', e2⟩ := slot b _ (neL b o e) hb (neC b o e hx) e1 (I.base.free b o e n hx)
  exact ⟨sl', e2⟩
 ·obtain ⟨o', e1⟩ := I.base.there b o e hx
  exact free b o' (neC b o e hx) e1 (I.base.free b o e n hx)
 ·obtain ⟨o', e1⟩ := I.base.there b o e hx
  exact there b o' (neC b o e hx) e1
 ·obtain ⟨m1, e1⟩ := I.base.tbls b ps e
  obtain ⟨m2, e2⟩ := tbls b _ e1
  exact ⟨m1 ++ m2, by rw [e2, Array.append_assoc]⟩
 ·obtain ⟨m, hn, hl⟩ := I.loc
  refine ⟨m, ns m hn, λ i x v e1 e2 e3 => ?_⟩
  obtain ⟨u, r, l⟩ := hl i x v e1 e2 e3
  refine ⟨u, r, ?_⟩
  rcases l with l | ⟨k, c, e, z⟩
  ·exact .inl l
  ·exact .inr ⟨k, c, e, cellK x c e _ z⟩
 ·obtain ⟨v, z⟩ := I.cell x c e
  exact ⟨v, cellK x c e v z⟩
 ·obtain ⟨m, ⟨o, _, _, ho, _⟩, _⟩ := I.loc
  exact free _ o (λ z => (hch _ z).2.1 rfl) ho I.free
 ·obtain ⟨v, o, ho, hd⟩ := I.cell x c e
  exact free c o (λ z => (hch c z).2.2.1 x c e rfl) ho (I.freeC x c e)
 ·obtain ⟨e, n, ne, nf, d⟩ := I.pin p hp
  have nch : p.1 ∉ ch := λ z => (hch p.1 z).2.2.2 p hp rfl
  exact ⟨keep p.1 p.2 ne nf nch e n, free p.1 p.2 nch e n, ne, nf, d⟩
theorem Inv.un {t' : Nat} (I : Inv X pins σ H s) (u : Un X.fs [] H H' s.heap h') (hok : HOk X.prog X.w H' h') : Inv X pins σ H' { s with heap := h', toks := t' } := by
 obtain ⟨m, ⟨o, es, ep, ho, r⟩, _⟩ := id I.loc
 obtain ⟨sl, hL⟩ := u.any ho I.free (by simp)
 exact I.step (g' := s.gens) (d' := s.drawn) (ch := []) (λ _ z => nomatch z) (λ b o _ hb _ e n => u.keep b o e n hb (by simp)) (λ b o _ hb _ e n => u.slot b o e n hb (by simp)) (λ b o _ e n => u.free b o e n (by simp)) (λ b o _ e => u.there b o e (by simp)) u.tups u.frzs u.tbls (λ m' hm => by
  obtain ⟨o', es', ep', ho', r'⟩ := hm
  rw [ho] at ho'; cases ho'
  exact ⟨_, es', ep', hL, r'⟩) hok I.bare
theorem Inv.call {g' : Array GenState} {t' : Nat} {d' : Drawn} {ch : List Addr} (I : Inv X pins σ H s) (u : Un (frs X.stack) ch H H' s.heap h') (hok : HOk X.prog X.w H' h') (hg : AllBare g')
  (hch : ∀ b ∈ ch, (b ∈ X.ex \/ X.s₀.heap.objs.size <= b) /\ b ≠ X.env.locals /\ (∀ x c, X.env.cells.lookup x = some c -> c ≠ b) /\ ∀ p ∈ X.pn ++ pins, p.1 ≠ b) :
  Inv X pins σ H' { s with heap := h', gens := g', drawn := d', toks := t' } := by
 obtain ⟨m, ⟨o, es, ep, ho, r⟩, _⟩ := id I.loc
 obtain ⟨sl, hL⟩ := u.any ho I.free λ z => (hch _ z).2.1 rfl
 exact I.step (ch := ch) hch (λ b o hL hb hc e n => u.keep b o e n (λ z => (List.mem_cons.mp (I.stkSub b z)).elim hL hb) hc) (λ b o _ _ hc e n => u.any e n hc) (λ b o hc e n => u.free b o e n hc) (λ b o hc e => u.there b o e hc) u.tups u.frzs u.tbls (λ m' hm => by
  obtain ⟨o', es', ep', ho', r'⟩ := hm
  rw [ho] at ho'; cases ho'
  exact ⟨_, es', ep', hL, r'⟩) hok hg
theorem Inv.turned {t' : Nat} {it : Addr} (I : Inv X pins σ H s) (k : ∀ b o, b ≠ it -> s.heap.get? b = some o -> h'.get? b = some o) (hn : H it = none) (hL : it ≠ X.env.locals)
  (h1 : it ∈ X.ex \/ X.s₀.heap.objs.size <= it) (h2 : ∀ x c, X.env.cells.lookup x = some c -> c ≠ it) (h3 : ∀ p ∈ X.pn ++ pins, p.1 ≠ it) : Inv X pins σ H { s with heap := h', toks := t' } := by
 have nit : ∀ b u, H b = some u -> b ≠ it := λ b u e z => by rw [z, hn] at e; cases e
 refine I.step (g' := s.gens) (d' := s.drawn) (ch := [it]) (λ b hb => ?_) (λ b o _ _ hc e _ => k b o (λ z => hc (by simp [z])) e) (λ b o _ _ hc e _ => ⟨o.slots, k b o (λ z => hc (by simp [z])) e⟩) (λ _ _ _ _ n => n)
  (λ b o hc e => ⟨o, k b o (λ z => hc (by simp [z])) e⟩) (λ _ _ e => e) (λ _ _ _ e => e) (λ b ps e => ⟨#[], by rw [e]; simp⟩) (λ m hm => ?_) (λ b u e => ?_) I.bare
 ·have e : b = it := by simpa using hb
  subst e
  exact ⟨h1, hL, h2, h3⟩
 ·obtain ⟨o, es, ep, ho, r⟩ := hm
  exact ⟨o, es, ep, k _ o (Ne.symm hL) ho, r⟩
 ·refine (I.hok b u e).stay (λ c v hc q => k c v ?_ q) (λ _ q => q) λ _ _ q => q
  rcases hc with z | z
  ·rw [z]; exact nit b u e
  ·exact nit c _ z
theorem Inv.tok (I : Inv X pins σ H s) (t : Nat) : Inv X pins σ H { s with toks := t } := I.un (h' := s.heap) (t' := t) Un.refl I.hok
theorem Inv.kept {t' : Nat} (I : Inv X pins σ H s) (k : ∀ b u, s.heap.get? b = some u -> h'.get? b = some u) : Inv X pins σ H { s with heap := h', toks := t' } := I.un (Un.kept k) (I.hok.kept k)
theorem Inv.laid {a : Addr} {o : HO} {t' : Nat} (I : Inv X pins σ H s) (k : ∀ b u, s.heap.get? b = some u -> h'.get? b = some u) (hp : s.heap.objs.size <= a) (new : q1K X.prog X.w (upd H a o) h' a o) :
  Inv X pins σ (upd H a o) { s with heap := h', toks := t' } := I.un (Un.laid k hp (I.hok.fresh hp)) (I.hok.laid k hp new)
theorem Inv.write {x e : Addr} {o : HO} {t' : Nat} (I : Inv X pins σ H s) (mu : Mut (H x)) (he : e = x \/ H e = some (.own x)) (k : ∀ b u, b ≠ e -> s.heap.get? b = some u -> h'.get? b = some u) (heo : ∃ u, h'.get? e = some u)
  (new : q1K X.prog X.w (upd H x o) h' x o) : Inv X pins σ (upd H x o) { s with heap := h', toks := t' } := I.un (Un.write mu he k heo) (I.hok.write mu he k heo new)
theorem Inv.pins_of {pins' : List (Addr × Obj)} (I : Inv X pins σ H s) (h : ∀ p ∈ pins', s.heap.get? p.1 = some p.2 /\ H p.1 = none /\ p.1 ≠ X.env.locals /\ p.1 ∉ X.fs /\ ∀ v, p.2.data ≠ .cell v) : Inv X pins' σ H s :=
 ⟨I.ok, I.os, I.bare, I.base, I.loc, I.cell, I.free, I.freeC, λ p hp => (List.mem_append.mp hp).elim (λ z => I.pin p (List.mem_append_left _ z)) (h p), I.hok, I.len⟩
theorem q3H {N : List Str} (hN : N.Nodup) {i j : Nat} {x : Str} (a : N[i]? = some x) (b : N[j]? = some x) : i = j := by
 obtain ⟨h1, e1⟩ := List.getElem?_eq_some_iff.mp a
 obtain ⟨h2, e2⟩ := List.getElem?_eq_some_iff.mp b
 exact (List.getElem_inj hN).mp (e1.trans e2.symm)
theorem q5S {M : Model} {A : Around} {E : Value -> Shared -> Prop} {i : Nat} {x : Str} {v : V} {u : Value} {Q : Unit -> Shared -> Prop} (I : Inv X pins σ H s) (hN : X.N.Nodup) (hi : X.N[i]? = some x) (hx : Loc X.env.scope x) (r : RelV v u)
  (h : ∀ s', Inv X pins (σ.set i (some v)) H s' -> (∃ a, Heap.SameBut a s.heap s'.heap /\ (a = X.env.locals \/ X.env.cells.lookup x = some a)) -> Q () s') (hf : X.fn x = true \/ X.env.scope.names.lookup x = some .local := by first | exact .inl rfl | exact .inr rfl | assumption) : wpAny M A (storeName X.env x u) Q E s := by
 obtain ⟨m, hn, hl⟩ := id I.loc
 have hcls : (X.env.scope.kind == .class || (X.env.scope.kind == .module && X.env.locals != X.env.globals)) = false := by rw [I.ok.kind]; rfl
 have hiσ : i < σ.length := by rw [I.len]; exact (List.getElem?_eq_some_iff.mp hi).1
 have cne := I.cne
 have tracked : ∀ {a : Addr} {h' : Heap}, (∃ o, s.heap.get? a = some o /\ H a = none) -> Heap.SameBut a s.heap h' -> HOk X.prog X.w H h' := λ {a h'} ha hs b ob e => by
  obtain ⟨_, _, hfree⟩ := ha
  refine (I.hok b ob e).stay (λ c w' hc q => (hs.2 c ?_).trans q) (λ _ q => q) λ _ _ q => q
  rintro rfl
  rcases hc with rfl | hc
  ·rw [hfree] at e; cases e
  ·rw [hfree] at hc; cases hc
 rcases hx with hk | hk
 ·refine wpAny_storeName_local hk hn (λ h' hn' hs => ?_) hcls
  obtain ⟨oL, _, _, hoL, _⟩ := id hn
  refine h _ ⟨I.ok, I.os, I.bare, ⟨λ b o e n hb hx => ?_, λ b o e n hb hx => ?_, I.base.free, λ b o e hx => ?_, I.base.tups, I.base.frzs, I.base.tbls⟩, ⟨_, hn', λ j y v' e1 e2 e3 => ?_⟩, λ y c e => ?_, I.free, I.freeC, λ p hp => ?_, tracked ⟨oL, hoL, I.free⟩ hs, by simpa using I.len⟩ ⟨_, hs, .inl rfl⟩
  ·exact (hs.2 b (Nat.ne_of_lt (Nat.lt_of_lt_of_le (Heap.lt_size e) I.ok.above))).trans (I.base.keep b o e n hb hx)
  ·obtain ⟨sl, e1⟩ := I.base.slot b o e n hb hx
   exact ⟨sl, (hs.2 b (Nat.ne_of_lt (Nat.lt_of_lt_of_le (Heap.lt_size e) I.ok.above))).trans e1⟩
  ·obtain ⟨o', e1⟩ := I.base.there b o e hx
   exact ⟨o', (hs.2 b (Nat.ne_of_lt (Nat.lt_of_lt_of_le (Heap.lt_size e) I.ok.above))).trans e1⟩
  ·by_cases hj : j = i
   ·subst hj
    rw [hi] at e1; cases e1
    rw [List.getElem?_set_self hiσ] at e2
    cases e2
    exact ⟨u, r, .inl ⟨hk, by simp⟩⟩
   ·rw [List.getElem?_set_ne (Ne.symm hj)] at e2
    obtain ⟨u', r', q⟩ := hl j y v' e1 e2 e3
    refine ⟨u', r', ?_⟩
    rcases q with ⟨k, e⟩ | ⟨k, c, e, z⟩
    ·refine .inl ⟨k, ?_⟩
     have : y ≠ x := λ e => hj (q3H hN e1 (e ▸ hi))
     simp [this, e]
    ·exact .inr ⟨k, c, e, z.sameBut hs (cne y c e)⟩
  ·obtain ⟨w', z⟩ := I.cell y c e
   exact ⟨w', z.sameBut hs (cne y c e)⟩
  ·obtain ⟨e, n, ne, nf, d⟩ := I.pin p hp
   exact ⟨(hs.2 p.1 ne).trans e, n, ne, nf, d⟩
 ·have hfn : X.fn x = true := by
   rcases hf with z | z
   ·exact z
   ·rw [z] at hk; cases hk
  obtain ⟨c, hc⟩ := I.ok.has x (.inl hk)
  obtain ⟨w', z⟩ := I.cell x c hc
  refine wpAny_storeName_cell I.ok.kind hk hc z (λ h' hc' hs => ?_)
  obtain ⟨oc, hoc, hocd⟩ := id z
  refine h { s with heap := h' } ⟨I.ok, I.os, I.bare, ⟨λ b o e n hb hx => ?_, λ b o e n hb hx => ?_, I.base.free, λ b o e hx => ?_, I.base.tups, I.base.frzs, I.base.tbls⟩, ⟨m, hn.sameBut hs (Ne.symm (cne x c hc)), λ j y v' e1 e2 e3 => ?_⟩, λ y c' e => ?_, I.free, I.freeC, λ p hp => ?_, tracked ⟨oc, hoc, I.freeC x c hc⟩ hs, by simpa using I.len⟩ ⟨c, hs, .inr hc⟩
  ·exact (hs.2 b (Nat.ne_of_lt (Nat.lt_of_lt_of_le (Heap.lt_size e) (I.ok.cab x c hfn hc)))).trans (I.base.keep b o e n hb hx)
  ·obtain ⟨sl, e1⟩ := I.base.slot b o e n hb hx
   exact ⟨sl, (hs.2 b (Nat.ne_of_lt (Nat.lt_of_lt_of_le (Heap.lt_size e) (I.ok.cab x c hfn hc)))).trans e1⟩
  ·obtain ⟨o', e1⟩ := I.base.there b o e hx
   exact ⟨o', (hs.2 b (Nat.ne_of_lt (Nat.lt_of_lt_of_le (Heap.lt_size e) (I.ok.cab x c hfn hc)))).trans e1⟩
  ·by_cases hj : j = i
   ·subst hj
    rw [hi] at e1; cases e1
    rw [List.getElem?_set_self hiσ] at e2
    cases e2
    exact ⟨u, r, .inr ⟨.inl hk, c, hc, hc'⟩⟩
   ·rw [List.getElem?_set_ne (Ne.symm hj)] at e2
    obtain ⟨u', r', q⟩ := hl j y v' e1 e2 e3
    refine ⟨u', r', ?_⟩
    rcases q with q | ⟨k, c', e, z'⟩
    ·exact .inl q
    ·refine .inr ⟨k, c', e, z'.sameBut hs ?_⟩
     rintro rfl
     exact hj (q3H hN e1 (I.ok.inj _ _ _ e hc ▸ hi))
  ·by_cases hcc : c' = c
   ·subst hcc; exact ⟨_, hc'⟩
   ·obtain ⟨w2, z2⟩ := I.cell y c' e
    exact ⟨w2, z2.sameBut hs hcc⟩
  ·obtain ⟨e, n, ne, nf, d⟩ := I.pin p hp
   refine ⟨(hs.2 p.1 ?_).trans e, n, ne, nf, d⟩
   intro q
   rw [q, hoc] at e
   have q' : oc = p.2 := Option.some.inj e
   exact d w' (by rw [← q']; exact hocd)
theorem q4Q {M : Model} {A : Around} {E : Value -> Shared -> Prop} {i : Nat} {x : Str} {v : V} {u : Value} {Q : Unit -> Shared -> Prop} (I : Inv X pins σ H s) (hN : X.N.Nodup) (hi : X.N[i]? = some x) (hx : Loc X.env.scope x) (r : RelV v u)
  (h : ∀ s', Inv X pins (σ.set i (some v)) H s' -> Q () s') (hf : X.fn x = true \/ X.env.scope.names.lookup x = some .local := by first | exact .inl rfl | exact .inr rfl | assumption) : wpAny M A (storeName X.env x u) Q E s :=
 q5S I hN hi hx r (λ s' I' _ => h s' I') hf
theorem Inv.call' {s' : Shared} {ch : List Addr} (I : Inv X pins σ H s) (ho : s'.os = s.os) (u : Un (frs X.stack) ch H H' s.heap s'.heap) (hok : HOk X.prog X.w H' s'.heap) (hg : AllBare s'.gens)
  (hch : ∀ b ∈ ch, (b ∈ X.ex \/ X.s₀.heap.objs.size <= b) /\ b ≠ X.env.locals /\ (∀ x c, X.env.cells.lookup x = some c -> c ≠ b) /\ ∀ p ∈ X.pn ++ pins, p.1 ≠ b) : Inv X pins σ H' s' := by
 obtain ⟨h', g', d', t', o'⟩ := s'
 have e : o' = s.os := ho
 subst e
 exact I.call (g' := g') (t' := t') (d' := d') u hok hg hch
end
noncomputable abbrev XK := Value -> Option Addr -> Hp -> Prop
noncomputable abbrev St := List (Option V)
noncomputable abbrev VK := V -> Hp -> Prop
noncomputable abbrev TE := St -> Hp -> VK -> Prop
noncomputable abbrev TT := St -> Hp -> (Bool -> Hp -> Prop) -> Prop
noncomputable abbrev TA := St -> Hp -> (List V -> Hp -> Prop) -> Prop
structure Ends where
 nx : St -> Hp -> Prop
 rt : VK
 bk : St -> Hp -> Prop := λ _ _ => False
 ct : St -> Hp -> Prop := λ _ _ => False
noncomputable abbrev TS := Ends -> St -> Hp -> Prop
noncomputable def EP (X : Cx) (pins : List (Addr × Obj)) (σ : St) (Q : VK) (u : Value) (s' : Shared) : Prop := ∃ v H', Inv X pins σ H' s' /\ RelV v u /\ Q v H'
noncomputable def TP (X : Cx) (pins : List (Addr × Obj)) (σ : St) (Q : Bool -> Hp -> Prop) (b : Bool) (s' : Shared) : Prop := ∃ H', Inv X pins σ H' s' /\ Q b H'
noncomputable def AP (X : Cx) (pins : List (Addr × Obj)) (σ : St) (Q : List V -> Hp -> Prop) (us : List Value) (s' : Shared) : Prop := ∃ vs H', Inv X pins σ H' s' /\ Vals vs us /\ Q vs H'
noncomputable def SP (X : Cx) (pins : List (Addr × Obj)) (D : Ends) (f : Flow) (s' : Shared) : Prop :=
 match f with
 | .next => ∃ σ' H', Inv X pins σ' H' s' /\ D.nx σ' H'
 | .brk => ∃ σ' H', Inv X pins σ' H' s' /\ D.bk σ' H'
 | .cont => ∃ σ' H', Inv X pins σ' H' s' /\ D.ct σ' H'
 | .ret u => ∃ v σ' H', Inv X pins σ' H' s' /\ RelV v u /\ D.rt v H'
noncomputable def PE (X : Cx) (e : Expr) (t : TE) : Prop :=
 ∀ (pins : List (Addr × Obj)) (s : Shared) (σ : St) (H : Hp) (Q : VK), Inv X pins σ H s -> t σ H Q -> wpAny (model X.prog X.w) X.A (eval e X.env) (EP X pins σ Q) X.xe s
noncomputable def PT (X : Cx) (e : Expr) (t : TT) : Prop :=
 ∀ (pins : List (Addr × Obj)) (s : Shared) (σ : St) (H : Hp) (Q : Bool -> Hp -> Prop), Inv X pins σ H s -> t σ H Q -> wpAny (model X.prog X.w) X.A (isTrue e X.env (eval e X.env)) (TP X pins σ Q) X.xe s
noncomputable def PW (X : Cx) (e : Expr) (t : TT) : Prop :=
 ∀ (whole : Sem Value) (pins : List (Addr × Obj)) (s : Shared) (σ : St) (H : Hp) (Q : Bool -> Hp -> Prop), Inv X pins σ H s -> t σ H Q -> wpAny (model X.prog X.w) X.A (isTrue e X.env whole) (TP X pins σ Q) X.xe s
theorem PW.pt {X : Cx} {e : Expr} {t : TT} (h : PW X e t) : PT X e t := h _
noncomputable def PA (X : Cx) (es : List Expr) (t : TA) : Prop :=
 ∀ (pos : Pos) (pins : List (Addr × Obj)) (s : Shared) (σ : St) (H : Hp) (Q : List V -> Hp -> Prop), Inv X pins σ H s -> t σ H Q -> wpAny (model X.prog X.w) X.A (spliced (backTo pos (starEach es X.env))) (AP X pins σ Q) X.xe s
noncomputable def PS (X : Cx) (st : Stmt) (t : TS) : Prop :=
 ∀ (pins : List (Addr × Obj)) (s : Shared) (σ : St) (H : Hp) (D : Ends), Inv X pins σ H s -> t D σ H -> wpAny (model X.prog X.w) X.A (exec st X.env) (SP X pins D) X.xe s
noncomputable def PSs (X : Cx) (st : List Stmt) (t : TS) : Prop :=
 ∀ (pins : List (Addr × Obj)) (s : Shared) (σ : St) (H : Hp) (D : Ends), Inv X pins σ H s -> t D σ H -> wpAny (model X.prog X.w) X.A (execs st X.env) (SP X pins D) X.xe s
theorem thn {α : Type} {t : Sem α} {Q Q' : α -> Shared -> Prop} {M : Model} {A : Around} {E : Value -> Shared -> Prop} {s : Shared} (h : wpAny M A t Q E s) (hQ : ∀ a s, Q a s -> Q' a s) : wpAny M A t Q' E s := wpAny_mono h hQ λ _ _ x => x
end L2
namespace L2
open PySem PySem.Spec PyProof.Rows
section
variable {X : Cx}
theorem bin {a b : Expr} {ta tb : TE} (ha : PE X a ta) (hb : PE X b tb) {pins : List (Addr × Obj)} {s : Shared} {σ : St} {H : Hp} {R : V -> V -> Hp -> Prop} (I : Inv X pins σ H s) (h : ta σ H λ x H1 => tb σ H1 λ y H2 => R x y H2)
  {α : Type} {Q : α -> Shared -> Prop} {f : Value -> Value -> Sem α}
  (hf : ∀ v u s2 x y H2, Inv X pins σ H2 s2 -> RelV x v -> RelV y u -> R x y H2 -> wpAny (model X.prog X.w) X.A (f v u) Q X.xe s2) :
  wpAny (model X.prog X.w) X.A (eval a X.env) (λ v s₁ => wpAny (model X.prog X.w) X.A (eval b X.env) (λ u s₂ => wpAny (model X.prog X.w) X.A (f v u) Q X.xe s₂) X.xe s₁) X.xe s := by
 refine thn (ha pins s σ H _ I h) λ v s1 ⟨x, H1, I1, r1, q1⟩ => ?_
 refine thn (hb pins s1 σ H1 _ I1 q1) λ u s2 ⟨y, H2, I2, r2, q2⟩ => ?_
 exact hf v u s2 x y H2 I2 r1 r2 q2
noncomputable def tVar (i : Nat) : TE := λ σ H Q => ∃ v, σ[i]? = some (some v) /\ Q v H
noncomputable def tC (v : V) : TE := λ _ H Q => Q v H
theorem q4q {i : Nat} {x : Str} {pos : Pos} (hN : X.N[i]? = some x) (hv : Vis X.env.scope x) (hd : (x == ("__debug__" : Str)) = false := by decide) (hcd : (x == ("__classdict__" : Str)) = false := by decide) : PE X (.Name x pos) (tVar i) := by
 intro pins s σ H Q I h
 obtain ⟨v, e, h⟩ := h
 obtain ⟨m, hn, hl⟩ := I.loc
 obtain ⟨u, r, l⟩ := hl i x v hN e hv
 have fin : EP X pins σ Q u s := ⟨v, H, I, r, h⟩
 rcases l with ⟨hk, hm⟩ | ⟨hk, c, hc, hcell⟩
 ·exact wpAny_Name (wpAny_loadName_local I.ok.kind hk hn hm fin) hd
 ·rcases hk with hk | hk
  ·exact wpAny_Name (wpAny_loadName_cell I.ok.kind hk hc hcell fin) hd
  ·exact wpAny_Name (wpAny_loadName_free I.ok.kind hk hc hcell fin hcd) hd
theorem z2q {i j pos} : PE X (.Constant (.int i) j pos) (tC (.int i)) := λ _ _ _ H _ I h => wpAny_Constant_int ⟨.int i, H, I.tok _, ⟨_, rfl⟩, h⟩
theorem z4O {b j pos} : PE X (.Constant (.bool b) j pos) (tC (.bl b)) := λ _ _ _ H _ I h => Constant_bool ⟨.bl b, H, I, rfl, h⟩
theorem z3a {j pos} : PE X (.Constant .none j pos) (tC .non) := λ _ _ _ H _ I h => Constant_none ⟨.non, H, I, rfl, h⟩
theorem z2g {x j pos} : PE X (.Constant (.str x) j pos) (tC (.str x)) := λ _ _ _ H _ I h => Calls.Constant_str ⟨.str x, H, I.tok _, ⟨_, rfl⟩, h⟩
noncomputable def Gl (X : Cx) (x : Str) : Prop := X.env.kindOf x = some .globalImplicit
theorem q5h {E : Value -> Shared -> Prop} {pins : List (Addr × Obj)} {s : Shared} {σ : St} {H : Hp} {x : Str} {u : Value} {pos : Pos} {Q : Value -> Shared -> Prop} (I : Inv X pins σ H s) (hg : Gl X x) (hm : X.mg x = some u) (h : Q u s)
  (hd : (x == ("__debug__" : Str)) = false := by decide) : wpAny (model X.prog X.w) X.A (eval (.Name x pos) X.env) Q E s :=
 Calls.Name_function_global I.ok.kind hg (Calls.loadGlobal_global (by rw [I.ok.glob]; exact I.mod.glob.keeps I.bk) hm h) hd
theorem q4K {E : Value -> Shared -> Prop} {pins : List (Addr × Obj)} {s : Shared} {σ : St} {H : Hp} {x : Str} {u : Value} {pos : Pos} {Q : Value -> Shared -> Prop} (I : Inv X pins σ H s) (hg : Gl X x) (hm : X.mg x = none) (hv : bootBuiltins x = some u) (h : Q u s)
  (hn : x ≠ "__name__" := by decide) (hd : (x == ("__debug__" : Str)) = false := by decide) : wpAny (model X.prog X.w) X.A (eval (.Name x pos) X.env) Q E s := by
 obtain ⟨mb, h1, h2⟩ := I.mod.blt
 exact Calls.Name_function_global I.ok.kind hg (Calls.loadGlobal_builtin (by rw [I.ok.glob]; exact I.mod.glob.keeps I.bk) hm (by rw [I.ok.blt]; exact h1.keeps I.bk) ((h2 x hn).trans hv) h) hd
theorem q7V {x : Str} {v : V} {u : Value} {pos : Pos} (hg : Gl X x) (hm : X.mg x = some u) (r : RelV v u) (hd : (x == ("__debug__" : Str)) = false := by decide) : PE X (.Name x pos) (tC v) :=
 λ _ _ _ H _ I h => q5h I hg hm ⟨v, H, I, r, h⟩ hd
theorem q4Y {x : Str} {v : V} {u : Value} {pos : Pos} (hg : Gl X x) (hm : X.mg x = none) (hv : bootBuiltins x = some u) (r : RelV v u) (hn : x ≠ "__name__" := by decide) (hd : (x == ("__debug__" : Str)) = false := by decide) : PE X (.Name x pos) (tC v) :=
 λ _ _ _ H _ I h => q4K I hg hm hv ⟨v, H, I, r, h⟩ hn hd
variable {a b : Expr} {ta tb : TE} {pos : Pos}
variable {tA tB' : TT} {rest : List Expr}
noncomputable def tAnd (t u : TT) : TT := λ σ H Q => t σ H λ c H1 => if c = true then u σ H1 Q else Q false H1
noncomputable def tOr (t u : TT) : TT := λ σ H Q => t σ H λ c H1 => if c = true then Q true H1 else u σ H1 Q
noncomputable def tNot (t : TT) : TT := λ σ H Q => t σ H λ c H1 => Q (!c) H1
theorem z1w (ha : PT X a tA) : PW X (.BoolOp .And [a] pos) tA := by
 intro wh pins s σ H Q I h
 refine isTrue_and (thn (ha pins s σ H Q I h) λ c s1 e => ?_)
 cases c with
 | true => exact isTrue_and_nil e
 | false => exact e
theorem z3m (ha : PT X a tA) : PW X (.BoolOp .Or [a] pos) tA := by
 intro wh pins s σ H Q I h
 refine isTrue_or (thn (ha pins s σ H Q I h) λ c s1 e => ?_)
 cases c with
 | false => exact isTrue_or_nil e
 | true => exact e
theorem q7B (ha : PT X a tA) (hb : PW X (.BoolOp .And (b :: rest) pos) tB') : PW X (.BoolOp .And (a :: b :: rest) pos) (tAnd tA tB') := by
 intro wh pins s σ H Q I h
 refine isTrue_and (thn (ha pins s σ H _ I h) λ c s1 ⟨H1, I1, q1⟩ => ?_)
 cases c with
 | true => exact hb wh pins s1 σ H1 Q I1 q1
 | false => exact ⟨H1, I1, q1⟩
theorem z1J (ha : PT X a tA) (hb : PW X (.BoolOp .Or (b :: rest) pos) tB') : PW X (.BoolOp .Or (a :: b :: rest) pos) (tOr tA tB') := by
 intro wh pins s σ H Q I h
 refine isTrue_or (thn (ha pins s σ H _ I h) λ c s1 ⟨H1, I1, q1⟩ => ?_)
 cases c with
 | true => exact ⟨H1, I1, q1⟩
 | false => exact hb wh pins s1 σ H1 Q I1 q1
theorem z0v (ha : PT X a tA) : PT X (.UnaryOp .Not a pos) (tNot tA) := by
 intro pins s σ H Q I h
 exact isTrue_not (ha pins s σ H (λ c H1 => Q (!c) H1) I h)
theorem z0f {op} {t : TE} (h : PE X a t) : PE X (.BoolOp op [a] pos) t := λ pins s σ H Q I hw => BoolOp_one (h pins s σ H Q I hw)
end
end L2
namespace L2
open PySem PySem.Spec PyProof.Rows
noncomputable def SqL (K : PySem.W.Frag) (H : Hp) (a : Addr) (xs : List V) : Prop :=
 Rd H a (.lst xs) \/
  ∃ (o : Obj) (its : Array Value) (n : Nat), K.lookup a = some o /\ o.cls = .type "list" /\ o.dict = none /\ o.data = .seq its n /\ its.size <= sizeLine /\ Vals xs its.toList
noncomputable def SqT (K : PySem.W.Frag) (H : Hp) (a : Addr) (xs : List V) : Prop :=
 Rd H a (.tup xs) \/
  ∃ (o : Obj) (its : Array Value) (n : Nat), K.lookup a = some o /\ (o.cls = .type "tuple" /\ o.dict = none) /\ o.data = .seq its n /\ its.size <= sizeLine /\ Vals xs its.toList
noncomputable def absV : Value -> Option V
 | .none => some .non
 | .bool b => some (.bl b)
 | .int i _ => some (.int i)
 | .str x _ => some (.str x)
 | .bytes b _ => some (.byt b)
 | .float b _ => some (.flt b)
 | .ref a => some (.ref a)
 | .type n => some (.ty n)
 | _ => none
theorem RelV.abs {x : V} {u : Value} (r : RelV x u) : absV u = some x := by
 cases x with
 | non => cases r; rfl
 | bl _ => cases r; rfl
 | int _ => obtain ⟨t, rfl⟩ := r; rfl
 | str _ => obtain ⟨t, rfl⟩ := r; rfl
 | byt _ => obtain ⟨t, rfl⟩ := r; rfl
 | flt _ => obtain ⟨t, rfl⟩ := r; rfl
 | ref _ => cases r; rfl
 | ty _ => cases r; rfl
theorem RelV.inj {x y : V} {u : Value} (r : RelV x u) (q : RelV y u) : x = y := Option.some.inj (r.abs.symm.trans q.abs)
theorem Vals.inj {xs ys : List V} {us : List Value} (h : Vals xs us) : Vals ys us -> xs = ys := by
 induction h generalizing ys with
 | nil => intro t; cases t; rfl
 | cons r _ ih => intro t; cases t with | cons r' t' => rw [r.inj r', ih t']
section
variable {X : Cx} {pins : List (Addr × Obj)} {σ : St} {H : Hp} {s : Shared} {a : Addr} {xs ys : List V}
theorem SqL.of {K : PySem.W.Frag} (h : H a = some (.lst xs)) : SqL K H a xs := .inl (.inl h)
theorem SqT.of {K : PySem.W.Frag} (h : H a = some (.tup xs)) : SqT K H a xs := .inl (.inl h)
theorem Inv.list (I : Inv X pins σ H s) (h : SqL X.K H a xs) : ∃ its : List Value, Vals xs its /\ PlainL s.heap a its.toArray /\ xs.length <= sizeLine := by
 rcases h with h | ⟨o, its, n, hk, hc, hd, hs, hz, r⟩
 ·obtain ⟨z, its, n, r, e⟩ := h.ok I.hok
  exact ⟨its, r, ⟨_, n, e, rfl, rfl, rfl⟩, z⟩
 ·refine ⟨its.toList, r, ⟨o, n, I.kIn a o hk, hc, hd, by simpa using hs⟩, ?_⟩
  have e := r.length
  simp only [Array.length_toList] at e
  omega
theorem Inv.tuple (I : Inv X pins σ H s) (h : SqT X.K H a xs) : ∃ its : List Value, Vals xs its /\ IsTup s.heap a its.toArray /\ xs.length <= sizeLine := by
 rcases h with h | ⟨o, its, n, hk, hc, hs, hz, r⟩
 ·obtain ⟨z, its, r, p⟩ := h.ok I.hok
  exact ⟨its, r, p.tup, z⟩
 ·refine ⟨its.toList, r, ⟨o, I.kIn a o hk, hc.1, n, by simpa using hs⟩, ?_⟩
  have e := r.length
  simp only [Array.length_toList] at e
  omega
theorem Inv.list_inj (I : Inv X pins σ H s) (h : SqL X.K H a xs) (h' : SqL X.K H a ys) : xs = ys := by
 obtain ⟨its, r, ⟨o, n, e, _, _, d⟩, _⟩ := I.list h
 obtain ⟨its', r', ⟨o', n', e', _, _, d'⟩, _⟩ := I.list h'
 rw [e] at e'; cases e'
 rw [d] at d'
 injection d' with d1 _
 have : its = its' := by simpa using congrArg Array.toList d1
 subst this
 exact r.inj r'
theorem Inv.tuple_inj (I : Inv X pins σ H s) (h : SqT X.K H a xs) (h' : SqT X.K H a ys) : xs = ys := by
 obtain ⟨its, r, ⟨o, e, _, n, d⟩, _⟩ := I.tuple h
 obtain ⟨its', r', ⟨o', e', _, n', d'⟩, _⟩ := I.tuple h'
 rw [e] at e'; cases e'
 rw [d] at d'
 injection d' with d1 _
 have : its = its' := by simpa using congrArg Array.toList d1
 subst this
 exact r.inj r'
end
section
variable {X : Cx} {pins : List (Addr × Obj)} {σ : St} {H : Hp} {s : Shared} {E : Value -> Shared -> Prop}
end
section
variable {X : Cx} {st : Stmt} {rest : List Stmt} {t u : TS} {e : Expr} {te : TE} {pos : Pos}
noncomputable def z4Q : TS := λ D σ H => D.nx σ H
noncomputable def tSeq (t u : TS) : TS := λ D σ H => t { D with nx := u D } σ H
theorem q3w : PSs X [] z4Q := λ _ _ σ H _ I h => wpAny_execs_nil ⟨σ, H, I, h⟩
theorem q1g (h1 : PS X st t) (h2 : PSs X rest u) : PSs X (st :: rest) (tSeq t u) := by
 intro pins s σ H D I h
 refine wpAny_execs_cons (thn (h1 pins s σ H { D with nx := u D } I h) λ f s1 q => ?_)
 cases f with
 | next =>
  obtain ⟨σ', H', I', q⟩ := q
  exact h2 pins s1 σ' H' D I' q
 | ret v => exact q
 | brk => exact q
 | cont => exact q
theorem z1a (h1 : PS X st t) : PSs X [st] t := by
 intro pins s σ H D I h
 refine wpAny_execs_cons (thn (h1 pins s σ H D I h) λ f s1 q => ?_)
 cases f with
 | next => exact wpAny_execs_nil q
 | ret v => exact q
 | brk => exact q
 | cont => exact q
theorem Inv.quiet {pins : List (Addr × Obj)} {σ : St} {H : Hp} {s : Shared} (I : Inv X pins σ H s) : interactive X.env = false := by simp [interactive, I.ok.kind]
noncomputable def z4X (te : TE) : TS := λ D σ H => te σ H λ _ H1 => D.nx σ H1
theorem q6r (he : PE X e te) (hs : swapsWith e none pos.line X.env = pure false := by rfl) : PS X (.Expr e pos) (z4X te) := by
 intro pins s σ H D I h
 exact wpAny_Expr_any (thn (he pins s σ H _ I h) λ v s1 ⟨x, H1, I1, r1, q1⟩ => ⟨σ, H1, I1, q1⟩) I.quiet hs
noncomputable def tRet (te : TE) : TS := λ D σ H => te σ H D.rt
theorem q3B (he : PE X e te) : PS X (.Return (some e) pos) (tRet te) := by
 intro pins s σ H D I h
 exact wpAny_Return_some (thn (he pins s σ H _ I h) λ v s1 ⟨x, H1, I1, r1, q1⟩ => ⟨x, σ, H1, I1, r1, q1⟩)
noncomputable def tIfS (c : TT) (t u : TS) : TS := λ D σ H => c σ H λ b H1 => if b = true then t D σ H1 else u D σ H1
theorem q5I {c : Expr} {a b : List Stmt} {tc : TT} (hc : PT X c tc) (ha : PSs X a t) (hb : PSs X b u) : PS X (.If c a b pos) (tIfS tc t u) := by
 intro pins s σ H D I h
 refine wpAny_If (thn (hc pins s σ H _ I h) λ d s1 ⟨H1, I1, q1⟩ => ?_)
 cases d with
 | true => exact ha pins s1 σ H1 D I1 q1
 | false => exact hb pins s1 σ H1 D I1 q1
noncomputable def z2Z : TS := λ _ _ _ => False
theorem q0L {sts : List Stmt} : PSs X sts z2Z := λ _ _ _ _ _ _ h => h.elim
end
noncomputable abbrev TG := V -> St -> Hp -> (St -> Hp -> Prop) -> Prop
noncomputable abbrev TGs := List V -> St -> Hp -> (St -> Hp -> Prop) -> Prop
noncomputable def PG (X : Cx) (target : Expr) (t : TG) : Prop :=
 ∀ (pins : List (Addr × Obj)) (s : Shared) (σ : St) (H : Hp) (v : V) (u : Value) (Q : St -> Hp -> Prop), Inv X pins σ H s -> RelV v u -> t v σ H Q ->
  wpAny (model X.prog X.w) X.A (assign target X.env u) (λ _ s' => ∃ σ' H', Inv X pins σ' H' s' /\ Q σ' H') X.xe s
noncomputable def PGs (X : Cx) (ts : List Expr) (t : TGs) : Prop :=
 ∀ (pins : List (Addr × Obj)) (s : Shared) (σ : St) (H : Hp) (vs : List V) (us : List Value) (Q : St -> Hp -> Prop), Inv X pins σ H s -> Vals vs us -> t vs σ H Q ->
  wpAny (model X.prog X.w) X.A (assignInOrder ((assignEach ts X.env).map (·.2)) us) (λ _ s' => ∃ σ' H', Inv X pins σ' H' s' /\ Q σ' H') X.xe s
noncomputable abbrev TSet := V -> V -> V -> Hp -> (Hp -> Prop) -> Prop
noncomputable def PSet (X : Cx) (t : TSet) : Prop :=
 ∀ (pins : List (Addr × Obj)) (s : Shared) (σ : St) (H : Hp) (o i v : V) (ov iv u : Value) (Q : Hp -> Prop), Inv X pins σ H s -> RelV o ov -> RelV i iv -> RelV v u -> t o i v H Q ->
  wpAny (model X.prog X.w) X.A (setItem ov iv u) (λ _ s' => ∃ H', Inv X pins σ H' s' /\ Q H') X.xe s
section
variable {X : Cx} {pos : Pos}
noncomputable def q7k (i : Nat) : TG := λ v σ H Q => Q (σ.set i (some v)) H
theorem q8I {i : Nat} {x : Str} (hN : X.N.Nodup) (hi : X.N[i]? = some x) (hx : Loc X.env.scope x) (hf : X.fn x = true \/ X.env.scope.names.lookup x = some .local := by first | exact .inl rfl | exact .inr rfl | assumption) : PG X (.Name x pos) (q7k i) := by
 intro pins s σ H v u Q I r h
 exact wpAny_assign_Name (q4Q I hN hi hx r (λ s' I' => ⟨_, H, I', h⟩) hf)
noncomputable def gNil : TGs := λ vs σ H Q => vs = [] /\ Q σ H
noncomputable def z2h (t : TG) (u : TGs) : TGs := λ vs σ H Q => ∃ v r, vs = v :: r /\ t v σ H λ σ' H' => u r σ' H' Q
theorem z0J : PGs X [] gNil := by
 intro pins s σ H vs us Q I r h
 obtain ⟨e, h⟩ := h
 subst e
 cases r
 exact assignInOrder_nil ⟨σ, H, I, h⟩
theorem q9b {e : Expr} {es : List Expr} {t : TG} {u : TGs} (h1 : PG X e t) (h2 : PGs X es u)
  (hs : (assignEach (e :: es) X.env).map (·.2) = assign e X.env :: (assignEach es X.env).map (·.2) := by rfl) : PGs X (e :: es) (z2h t u) := by
 intro pins s σ H vs us Q I r h
 obtain ⟨v, vr, e1, h⟩ := h
 subst e1
 cases r with
 | cons r rr =>
  rw [hs]
  refine assignInOrder_cons (thn (h1 pins s σ H _ _ _ I r h) λ _ s1 ⟨σ1, H1, I1, q1⟩ => ?_)
  exact h2 pins s1 σ1 H1 _ _ Q I1 rr q1
noncomputable def gTup (K : PySem.W.Frag) (n : Nat) (t : TGs) : TG := λ v σ H Q => ∃ a xs, v = .ref a /\ SqT K H a xs /\ xs.length = n /\ t xs σ H Q
theorem z0i {es : List Expr} {k : Nat} {t : TGs} {n : Nat} (hc : X.calm = true) (h : PGs X es t)
  (hn : (assignEach es X.env).length = n := by rfl) (hst : (assignEach es X.env).findIdx? (·.1) = none := by rfl) : PG X (.Tuple es k pos) (gTup X.K n t) := by
 intro pins s σ H v u Q I r hw
 obtain ⟨a, xs, e1, hq, hl, hw⟩ := hw
 subst e1
 cases r
 obtain ⟨its, rv, ht, hz⟩ := I.tuple hq
 refine assign_Tuple_tuple (I.ok.hd hc) ht (by simp [hn, ← hl, rv.length]) hst λ h' hx => ?_
 have I1 : Inv X pins σ H { s with heap := h' } := I.kept (t' := s.toks) λ b o e => hx b o (Nat.ne_of_lt (Heap.lt_size e)) e
 exact h pins _ σ H xs _ Q I1 (by simpa using rv) hw
noncomputable def gSub (to ti : TE) (t : TSet) : TG := λ v σ H Q => to σ H λ o H1 => ti σ H1 λ i H2 => t o i v H2 λ H3 => Q σ H3
theorem z3c {o i : Expr} {to ti : TE} {t : TSet} (ho : PE X o to) (hi : PE X i ti) (hs : PSet X t)
  (ha : ∀ v, assign (.Subscript o i pos) X.env v = (do
   let ov ← holding [v] (eval o X.env)
   let iv ← holding [v, ov] (eval i X.env)
   standAt pos
   holding [v, ov, iv] (setItem ov iv v)
   release [v, ov, iv] []) := by intro _; rfl) : PG X (.Subscript o i pos) (gSub to ti t) := by
 intro pins s σ H v u Q I r h
 rw [ha]
 refine wpAny_bind (wpAny_holding (thn (ho pins s σ H _ I h) λ ov s1 ⟨x, H1, I1, r1, q1⟩ => ?_))
 refine wpAny_bind (wpAny_holding (thn (hi pins s1 σ H1 _ I1 q1) λ iv s2 ⟨y, H2, I2, r2, q2⟩ => ?_))
 refine wpAny_bind (wpAny_standAt (wpAny_bind (wpAny_holding (thn (hs pins s2 σ H2 x y v ov iv u _ I2 r1 r2 r q2) λ _ s3 ⟨H3, I3, q3⟩ => ?_))))
 exact wpAny_release ⟨σ, H3, I3, q3⟩
noncomputable def tAsg (te : TE) (g : TG) : TS := λ D σ H => te σ H λ x H1 => g x σ H1 D.nx
theorem z0p {tg e : Expr} {te : TE} {g : TG} (he : PE X e te) (hg : PG X tg g) (hs : swapsWithSole [tg] e pos.line X.env = pure false := by rfl) (hw : swappedStores [tg] e X.env = pure none := by rfl)
  (h1 : (assignEach [tg] X.env).map (·.2) = [assign tg X.env] := by rfl) : PS X (.Assign [tg] e pos) (tAsg te g) := by
 intro pins s σ H D I h
 refine wpAny_Assign_stores (thn (he pins s σ H _ I h) λ v s1 ⟨x, H1, I1, r1, q1⟩ => ?_) hs hw
 rw [h1]
 exact thn (hg pins s1 σ H1 x v _ I1 r1 q1) λ _ s2 q => q
theorem q6t {i : Nat} {x : Str} {e : Expr} {te : TE} {pos' : Pos} (hN : X.N.Nodup) (hi : X.N[i]? = some x) (hx : Loc X.env.scope x) (he : PE X e te) (hs : swapsWith e (some (.Name x pos')) pos.line X.env = pure false := by rfl) (hf : X.fn x = true \/ X.env.scope.names.lookup x = some .local := by first | exact .inl rfl | exact .inr rfl | assumption) :
  PS X (.Assign [.Name x pos'] e pos) (tAsg te (q7k i)) := by
 intro pins s σ H D I h
 refine wpAny_Assign_Name (thn (he pins s σ H _ I h) λ v s1 ⟨y, H1, I1, r1, q1⟩ => ?_) hs
 exact q4Q I1 hN hi hx r1 (λ s2 I2 => ⟨_, H1, I2, q1⟩) hf
end
section
variable {X : Cx} {pos : Pos}
end
structure It where
 go : Nat -> Hp -> Prop
 yld : Nat -> Hp -> V -> Hp -> Prop
 stop : Nat -> Hp -> Prop
noncomputable def FpOk (X : Cx) (pins : List (Addr × Obj)) (H : Hp) (b : Addr) : Prop :=
 H b = none /\ b ≠ X.env.locals /\ b ∉ X.fs /\ (b ∈ X.ex \/ X.s₀.heap.objs.size <= b) /\ (∀ x c, X.env.cells.lookup x = some c -> c ≠ b) /\ ∀ p ∈ X.pn ++ pins, p.1 ≠ b
theorem Inv.fpOk {X : Cx} {pins : List (Addr × Obj)} {σ : St} {H H' : Hp} {s : Shared} {b : Addr} (I : Inv X pins σ H s) (hb : s.heap.objs.size <= b) (hn : H' b = none) : FpOk X pins H' b := by
 refine ⟨hn, Nat.ne_of_gt (Nat.lt_of_lt_of_le I.lt hb), I.nofs hb, .inr (Nat.le_trans I.sz hb), λ x c e z => ?_, λ p hp z => ?_⟩
 ·obtain ⟨v, q⟩ := I.cell x c e
  exact absurd (Nat.lt_of_lt_of_le q.lt (by rw [z]; exact hb)) (Nat.lt_irrefl _)
 ·exact absurd (Nat.lt_of_lt_of_le (Heap.lt_size (I.pin p hp).1) (by rw [z]; exact hb)) (Nat.lt_irrefl _)
structure Turn (P : Program) (w : World) (K : PySem.W.Frag) (tg : Expr) (J : It) (fp : List Addr) (it : Addr) (tn : Nat -> Heap -> Prop) : Prop where
 mem : it ∈ fp
 obj : ∀ i h, tn i h -> ∀ b ∈ fp, ∃ o, h.get? b = some o /\ ∀ v, o.data ≠ .cell v
 keep : ∀ i h h', tn i h -> (∀ b ∈ fp, ∀ o, h.get? b = some o -> h'.get? b = some o) -> tn i h'
 item : ∀ (X : Cx), X.prog = P -> X.w = w -> X.K = K -> X.calm = true -> ∀ (i : Nat) (pins : List (Addr × Obj)) (s : Shared) (σ : St) (H : Hp) (E : Value -> Shared -> Prop), Inv X pins σ H s -> (∀ b ∈ fp, FpOk X pins H b) -> tn i s.heap -> J.go i H ->
  wpAny (model P w) X.A (pyNext (.ref it)) (λ r s1 => ∃ u, r = some u /\
   wpAny (model P w) X.A (letOwnedTupleGo tg (.ref it) u) (λ _ s2 => ∃ x H', Inv X pins σ H' s2 /\ RelV x u /\ J.yld i H x H' /\ tn (i + 1) s2.heap /\ ∀ b ∈ fp, H' b = none) E s1) E s
 done : ∀ (X : Cx), X.prog = P -> X.w = w -> X.K = K -> X.calm = true -> ∀ (i : Nat) (pins : List (Addr × Obj)) (s : Shared) (σ : St) (H : Hp) (E : Value -> Shared -> Prop), Inv X pins σ H s -> (∀ b ∈ fp, FpOk X pins H b) -> tn i s.heap -> J.stop i H ->
  wpAny (model P w) X.A (pyNext (.ref it)) (λ r s1 => r = none /\ Inv X pins σ H s1) E s
 self : ∀ (A : Around) (i : Nat) (s : Shared) (Q : Value -> Shared -> Prop) (E : Value -> Shared -> Prop), tn i s.heap -> Q (.ref it) s -> wpAny (model P w) A (pyIter (.ref it)) Q E s
noncomputable abbrev TI := St -> Hp -> (It -> Hp -> Prop) -> Prop
noncomputable def PIE (X : Cx) (pins : List (Addr × Obj)) (σ : St) (tg : Expr) (R : It -> Hp -> Prop) (itv : Value) (s2 : Shared) : Prop :=
 ∃ (it : Addr) (fp : List Addr) (tn : Nat -> Heap -> Prop) (J : It) (H' : Hp), itv = .ref it /\ Inv X pins σ H' s2 /\ Turn X.prog X.w X.K tg J fp it tn /\ tn 0 s2.heap /\ (∀ b ∈ fp, FpOk X pins H' b) /\ R J H'
noncomputable def PI (X : Cx) (tg iter : Expr) (wi : TI) : Prop :=
 ∀ (pins : List (Addr × Obj)) (s : Shared) (σ : St) (H : Hp) (R : It -> Hp -> Prop), Inv X pins σ H s -> wi σ H R ->
  wpAny (model X.prog X.w) X.A (eval iter X.env) (λ v s1 => wpAny (model X.prog X.w) X.A (pyIter v) (PIE X pins σ tg R) X.xe s1) X.xe s
theorem q9N {M : Model} {A : Around} {E : Value -> Shared -> Prop} {s : Shared} {tg : Expr} {it : Addr} {u : Value} {o : Obj} {n : String} {vs : Array Value} {Q : Unit -> Shared -> Prop} (ho : s.heap.get? it = some o) (hc : o.cls = .type n) (hd : o.data = .fields vs)
    (hn : ["enumerate", "zip", "dict_itemiterator", "dict_reverseitemiterator", "odict_iterator", "itertools.zip_longest", "itertools.pairwise"].contains n = false) (hQ : Q () s) : wpAny M A (letOwnedTupleGo tg (.ref it) u) Q E s := by
  unfold letOwnedTupleGo
  cases tg <;> first
    | exact wpAny_pure hQ
    | (cases u <;> first
        | exact wpAny_pure hQ
        | (refine wpAny_bind (wpAny_load ho ?_)
           rw [hc, hd]
           show wpAny M A (if (["enumerate", "zip", "dict_itemiterator", "dict_reverseitemiterator", "odict_iterator", "itertools.zip_longest", "itertools.pairwise"].contains n && vs[0]? == some (rawInt _)) = true then _ else _) Q E s
           rw [if_neg (by intro h; rw [hn, Bool.false_and] at h; cases h)]
           exact wpAny_pure hQ))
noncomputable def Itl (K : PySem.W.Frag) (a : Addr) : It :=
 ⟨λ i H => ∃ xs x, SqL K H a xs /\ xs[i]? = some x, λ i H x H' => H' = H /\ ∀ xs, SqL K H a xs -> xs[i]? = some x, λ i H => ∃ xs, SqL K H a xs /\ xs.length <= i⟩
noncomputable def Itt (K : PySem.W.Frag) (a : Addr) : It :=
 ⟨λ i H => ∃ xs x, SqT K H a xs /\ xs[i]? = some x, λ i H x H' => H' = H /\ ∀ xs, SqT K H a xs -> xs[i]? = some x, λ i H => ∃ xs, SqT K H a xs /\ xs.length <= i⟩
noncomputable def Itr (lo : Int) (n : Nat) : It := ⟨λ i _ => i < n, λ i H x H' => H' = H /\ x = .int (lo + i), λ i _ => n <= i⟩
theorem q8D {P : Program} {w : World} {K : PySem.W.Frag} {tg : Expr} (a it : Addr) : Turn P w K tg (Itl K a) [it] it (λ i h => h.IsListIter it a i) where
 mem := by simp
 obj := λ i h st b hb => by
  have e : b = it := by simpa using hb
  subst e
  obtain ⟨o, e, c, d⟩ := st
  exact ⟨o, e, λ v z => by rw [d] at z; cases z⟩
 keep := λ i h h' st k => st.at λ o e => k it (by simp) o e
 item := by
  intro X hP hw hK hc i pins s σ H E I hf st hg
  subst hP hw hK
  obtain ⟨xs, x, hq, hx⟩ := hg
  obtain ⟨its, rv, p, hz⟩ := I.list hq
  obtain ⟨u, hu, ru⟩ := rv.get hx
  obtain ⟨f0, f1, f2, f3, f4, f5⟩ := hf it (by simp)
  refine wpAny_pyNext_list_item st p.isList (x := u) (by simpa using hu) λ h' st' sb => ?_
  have I1 : Inv X pins σ H { s with heap := h' } := I.turned (t' := s.toks) (λ b o hb e => (sb.2 b hb).trans e) f0 f1 f3 f4 f5
  obtain ⟨o, e, c, d⟩ := id st'
  exact ⟨u, rfl, q9N (s := { s with heap := h' }) e c d (by decide) ⟨x, H, I1, ru, ⟨rfl, λ ys hy => by rw [I.list_inj hy hq]; exact hx⟩, st', λ b hb => (hf b hb).1⟩⟩
 done := by
  intro X hP hw hK hc i pins s σ H E I hf st hg
  subst hP hw hK
  obtain ⟨xs, hq, hx⟩ := hg
  obtain ⟨its, rv, p, hz⟩ := I.list hq
  obtain ⟨f0, f1, f2, f3, f4, f5⟩ := hf it (by simp)
  have hl := rv.length
  exact wpAny_pyNext_list_end (I.ok.hd hc) st p.isList (by simp; omega) λ h' eb => ⟨rfl, I.turned (t' := s.toks) (λ b o hb e => eb b o hb e) f0 f1 f3 f4 f5⟩
 self := λ _ _ _ _ _ st h => wpAny_pyIter_listiter st h
theorem q6S {P : Program} {w : World} {K : PySem.W.Frag} {tg : Expr} (a it : Addr) : Turn P w K tg (Itt K a) [it] it (λ i h => h.IsTupleIter it a i) where
 mem := by simp
 obj := λ i h st b hb => by
  have e : b = it := by simpa using hb
  subst e
  obtain ⟨o, e, c, d⟩ := st
  exact ⟨o, e, λ v z => by rw [d] at z; cases z⟩
 keep := λ i h h' st k => st.at λ o e => k it (by simp) o e
 item := by
  intro X hP hw hK hc i pins s σ H E I hf st hg
  subst hP hw hK
  obtain ⟨xs, x, hq, hx⟩ := hg
  obtain ⟨its, rv, p, hz⟩ := I.tuple hq
  obtain ⟨u, hu, ru⟩ := rv.get hx
  obtain ⟨f0, f1, f2, f3, f4, f5⟩ := hf it (by simp)
  refine wpAny_pyNext_tuple_item st (show s.heap.IsTuple a its.toArray from p) (x := u) (by simpa using hu) λ h' st' sb => ?_
  have I1 : Inv X pins σ H { s with heap := h' } := I.turned (t' := s.toks) (λ b o hb e => (sb.2 b hb).trans e) f0 f1 f3 f4 f5
  obtain ⟨o, e, c, d⟩ := id st'
  exact ⟨u, rfl, q9N (s := { s with heap := h' }) e c d (by decide) ⟨x, H, I1, ru, ⟨rfl, λ ys hy => by rw [I.tuple_inj hy hq]; exact hx⟩, st', λ b hb => (hf b hb).1⟩⟩
 done := by
  intro X hP hw hK hc i pins s σ H E I hf st hg
  subst hP hw hK
  obtain ⟨xs, hq, hx⟩ := hg
  obtain ⟨its, rv, p, hz⟩ := I.tuple hq
  obtain ⟨f0, f1, f2, f3, f4, f5⟩ := hf it (by simp)
  have hl := rv.length
  exact wpAny_pyNext_tuple_end (I.ok.hd hc) st (show s.heap.IsTuple a its.toArray from p) (by simp; omega) λ h' eb => ⟨rfl, I.turned (t' := s.toks) (λ b o hb e => eb b o hb e) f0 f1 f3 f4 f5⟩
 self := λ _ _ _ _ _ st h => wpAny_pyIter_tupleiter st h
theorem q7d {P : Program} {w : World} {K : PySem.W.Frag} {tg : Expr} (it : Addr) (lo : Int) (n : Nat) : Turn P w K tg (Itr lo n) [it] it (λ i h => IsRangeIter h it (lo + (i : Nat) * 1) ((n : Int) - (i : Nat)) 1) where
 mem := by simp
 obj := λ i h st b hb => by
  have e : b = it := by simpa using hb
  subst e
  exact ⟨_, st, λ v z => by
   have z' : Data.fields _ = Data.cell v := z
   cases z'⟩
 keep := λ i h h' st k => k it (by simp) _ st
 item := by
  intro X hP hw hK hc i pins s σ H E I hf st hg
  subst hP hw hK
  obtain ⟨f0, f1, f2, f3, f4, f5⟩ := hf it (by simp)
  have W := Walks.range (prog := X.prog) (w := X.w) (I.ok.hd hc) it lo 1 n
  refine W.item i s _ _ hg st λ v h' tk hv st' kk => ?_
  obtain ⟨t, rfl⟩ := hv
  have I1 : Inv X pins σ H { s with heap := h', toks := tk } := I.turned (λ b o hb e => kk b o (by simpa using hb) e) f0 f1 f3 f4 f5
  refine ⟨_, rfl, q9N (s := { s with heap := h', toks := tk }) (n := "range_iterator") st' rfl rfl (by decide) ⟨.int (lo + i), H, I1, ⟨t, ?_⟩, ⟨rfl, rfl⟩, st', λ b hb => (hf b hb).1⟩⟩
  rw [Int.mul_one]
 done := by
  intro X hP hw hK hc i pins s σ H E I hf st hg
  subst hP hw hK
  obtain ⟨f0, f1, f2, f3, f4, f5⟩ := hf it (by simp)
  exact wpAny_pyNext_range_end (I.ok.hd hc) st (by have : n <= i := hg; omega) λ h' eb => ⟨rfl, I.turned (t' := s.toks) (λ b o hb e => eb b o hb e) f0 f1 f3 f4 f5⟩
 self := λ _ _ _ _ _ st h => wpAny_pyIter_rangeiter st h
end L2
namespace L2
open PySem PySem.Spec PyProof.Rows
section
variable {X : Cx} {tg : Expr}
noncomputable def z4E (K : PySem.W.Frag) (tl : TE) : TI := λ σ H R => tl σ H λ x H1 => ∃ a, x = .ref a /\ (∃ xs, SqL K H1 a xs) /\ R (Itl K a) H1
noncomputable def iTup (K : PySem.W.Frag) (tl : TE) : TI := λ σ H R => tl σ H λ x H1 => ∃ a, x = .ref a /\ (∃ xs, SqT K H1 a xs) /\ R (Itt K a) H1
theorem q6b {l : Expr} {tl : TE} (hl : PE X l tl) : PI X tg l (z4E X.K tl) := by
 intro pins s σ H R I h
 refine thn (hl pins s σ H _ I h) λ v s1 ⟨x, H1, I1, r1, q1⟩ => ?_
 obtain ⟨a, e, ⟨xs, hq⟩, q⟩ := q1
 subst e
 cases r1
 obtain ⟨its, rv, p, hz⟩ := I1.list hq
 refine wpAny_pyIter_list p.isList ?_
 refine ⟨s1.heap.objs.size, [s1.heap.objs.size], _, _, H1, rfl, I1.kept (t' := s1.toks) λ b o e => Heap.get?_push_of_some _ e, q8D a _, ⟨_, Heap.get?_push_size _ rfl, rfl, rfl⟩, λ b hb => ?_, q⟩
 have e : b = s1.heap.objs.size := by simpa using hb
 subst e
 exact I1.fpOk (Nat.le_refl _) (I1.hok.fresh (Nat.le_refl _))
theorem z3b {l : Expr} {tl : TE} (hl : PE X l tl) : PI X tg l (iTup X.K tl) := by
 intro pins s σ H R I h
 refine thn (hl pins s σ H _ I h) λ v s1 ⟨x, H1, I1, r1, q1⟩ => ?_
 obtain ⟨a, e, ⟨xs, hq⟩, q⟩ := q1
 subst e
 cases r1
 obtain ⟨its, rv, p, hz⟩ := I1.tuple hq
 refine wpAny_pyIter_tuple (show s1.heap.IsTuple a its.toArray from p) ?_
 refine ⟨s1.heap.objs.size, [s1.heap.objs.size], _, _, H1, rfl, I1.kept (t' := s1.toks) λ b o e => Heap.get?_push_of_some _ e, q6S a _, ⟨_, Heap.get?_push_size _ rfl, rfl, rfl⟩, λ b hb => ?_, q⟩
 have e : b = s1.heap.objs.size := by simpa using hb
 subst e
 exact I1.fpOk (Nat.le_refl _) (I1.hok.fresh (Nat.le_refl _))
theorem q6J {pins : List (Addr × Obj)} {σ : St} {H : Hp} {s : Shared} {R : It -> Hp -> Prop} {E : Value -> Shared -> Prop} {lo hi : Int} {t u v : Tok} {tk : Nat} (I : Inv X pins σ H s) (h1 : -(2 ^ 62) <= lo) (h2 : lo < 2 ^ 62) (h3 : -(2 ^ 62) <= hi) (h4 : hi < 2 ^ 62)
  (q : R (Itr lo (hi - lo).toNat) H) : wpAny (model X.prog X.w) X.A (pyIter (.ref s.heap.objs.size)) (PIE X pins σ tg R) E { s with heap := s.heap.push { cls := .type "range", data := .fields #[.int lo t, .int hi u, .int 1 v] }, toks := tk } := by
 refine wpAny_pyIter_range (IsRange.new ..) (small_one h1 h2 h3 h4) ?_
 have I1 : Inv X pins σ H { s with heap := s.heap.push { cls := .type "range", data := .fields #[.int lo t, .int hi u, .int 1 v] }, toks := tk } := I.kept λ b o e => Heap.get?_push_of_some _ e
 refine ⟨(s.heap.push { cls := .type "range", data := .fields #[.int lo t, .int hi u, .int 1 v] }).objs.size, [(s.heap.push { cls := .type "range", data := .fields #[.int lo t, .int hi u, .int 1 v] }).objs.size], _, _, H, rfl,
  I1.kept (t' := tk) λ b o e => Heap.get?_push_of_some _ e, q7d _ lo (hi - lo).toNat, ?_, λ b hb => ?_, q⟩
 ·have e1 : lo + ((0 : Nat) : Int) * 1 = lo := by simp
  have e2 : (((hi - lo).toNat : Nat) : Int) - ((0 : Nat) : Int) = Builtin.Range.rangeSize lo hi 1 := by rw [rangeSize_one]; split <;> omega
  show IsRangeIter _ _ (lo + ((0 : Nat) : Int) * 1) ((((hi - lo).toNat : Nat) : Int) - ((0 : Nat) : Int)) 1
  rw [e1, e2]
  exact Heap.get?_push_size _ rfl
 ·have e : b = (s.heap.push { cls := .type "range", data := .fields #[.int lo t, .int hi u, .int 1 v] }).objs.size := by simpa using hb
  subst e
  exact I1.fpOk (Nat.le_refl _) (I1.hok.fresh (Nat.le_refl _))
noncomputable def z4w (ta : TA) : TI := λ σ H R => ta σ H λ vs H1 => ∃ j : Int, vs = [.int j] /\ -(2 ^ 62) <= j /\ j < 2 ^ 62 /\ R (Itr 0 j.toNat) H1
noncomputable def z4c (ta : TA) : TI := λ σ H R => ta σ H λ vs H1 => ∃ i j : Int, vs = [.int i, .int j] /\ (-(2 ^ 62) <= i /\ i < 2 ^ 62 /\ -(2 ^ 62) <= j /\ j < 2 ^ 62) /\ R (Itr i (j - i).toNat) H1
theorem q8L {a : Expr} {ta : TA} {p pos : Pos} (hg : Gl X "range") (hm : X.mg "range" = none) (ha : PA X [a] ta) (hs : starEach [a] X.env = [(false, eval a X.env)] := by rfl) : PI X tg (.Call (.Name "range" p) [a] [] pos) (z4w ta) := by
 intro pins s σ H R I h
 refine Call_ (q4K I hg hm boot_range (PyProof.Rows.callWith_type1 (thn (ha pos pins s σ H _ I h) λ us s1 ⟨vs, H1, I1, r1, q1⟩ => ?_) hs rfl))
 obtain ⟨j, e, q1, q2, q⟩ := q1
 subst e
 cases r1 with
 | cons r rr =>
  cases rr
  obtain ⟨t, rfl⟩ := r
  exact call_range_1 (q6J I1 (by omega) (by omega) q1 q2 (by simpa using q))
theorem q8t {a b : Expr} {ta : TA} {p pos : Pos} (hg : Gl X "range") (hm : X.mg "range" = none) (ha : PA X [a, b] ta) (hs : starEach [a, b] X.env = [(false, eval a X.env), (false, eval b X.env)] := by rfl) (hs2 : starEach [b] X.env = [(false, eval b X.env)] := by rfl) :
  PI X tg (.Call (.Name "range" p) [a, b] [] pos) (z4c ta) := by
 intro pins s σ H R I h
 refine Call_ (q4K I hg hm boot_range (PyProof.Rows.callWith_type1 (thn (ha pos pins s σ H _ I h) λ us s1 ⟨vs, H1, I1, r1, q1⟩ => ?_) (by rw [hs, hs2]) (by rw [hs2]; rfl)))
 obtain ⟨i, j, e, ⟨q1, q2, q3, q4⟩, q⟩ := q1
 subst e
 cases r1 with
 | cons r rr =>
  cases rr with
  | cons r' rr =>
   cases rr
   obtain ⟨t, rfl⟩ := r
   obtain ⟨t', rfl⟩ := r'
   exact call_range_2 (q6J I1 q1 q2 q3 q4 q)
noncomputable def tFor (wi : TI) (g : TG) (tb : TS) : TS := λ D σ H => wi σ H λ J H1 => ∃ W : Nat -> Nat -> St -> Hp -> Prop, (∃ m, W 0 m σ H1) /\ ∀ i m σ H, W i m σ H ->
 (J.stop i H /\ D.nx σ H) \/ (J.go i H /\ ∃ N : St -> Hp -> Prop, (∀ σ' H', N σ' H' -> ∃ m', m' < m /\ W (i + 1) m' σ' H') /\ ∀ x H', J.yld i H x H' -> g x σ H' λ σ2 H2 => tb { D with nx := N, ct := N, bk := D.nx } σ2 H2)
noncomputable def q5t (fp : List Addr) (h : Heap) : List (Addr × Obj) := fp.filterMap λ b => (h.get? b).map λ o => (b, o)
theorem q2J {fp : List Addr} {h : Heap} {b : Addr} {o : Obj} (hb : b ∈ fp) (e : h.get? b = some o) : (b, o) ∈ q5t fp h := List.mem_filterMap.mpr ⟨b, hb, by rw [e]; rfl⟩
theorem q7C {fp : List Addr} {h : Heap} {p : Addr × Obj} (hp : p ∈ q5t fp h) : p.1 ∈ fp /\ h.get? p.1 = some p.2 := by
 obtain ⟨b, hb, e⟩ := List.mem_filterMap.mp hp
 cases q : h.get? b with
 | none => rw [q] at e; cases e
 | some o =>
  rw [q] at e
  have e' : (b, o) = p := Option.some.inj e
  subst e'
  exact ⟨hb, q⟩
theorem Inv.pinned {pins : List (Addr × Obj)} {σ : St} {H : Hp} {s : Shared} {fp : List Addr} (I : Inv X pins σ H s) (hf : ∀ b ∈ fp, FpOk X pins H b) (ho : ∀ b ∈ fp, ∃ o, s.heap.get? b = some o /\ ∀ v, o.data ≠ .cell v) : Inv X (pins ++ q5t fp s.heap) σ H s :=
 I.pins_of λ p hp => (List.mem_append.mp hp).elim (λ z => I.pin p (List.mem_append_right _ z)) λ z => by
  obtain ⟨hb, e⟩ := q7C z
  obtain ⟨f0, f1, f2, _⟩ := hf p.1 hb
  obtain ⟨o, e', d⟩ := ho p.1 hb
  rw [e] at e'; cases e'
  exact ⟨e, f0, f1, f2, d⟩
theorem Inv.unpinned {pins pl : List (Addr × Obj)} {σ : St} {H : Hp} {s : Shared} (I : Inv X (pins ++ pl) σ H s) : Inv X pins σ H s := I.pins_of λ p hp => I.pin p (List.mem_append_right _ (List.mem_append_left _ hp))
theorem z0e {iter : Expr} {body : List Stmt} {wi : TI} {g : TG} {tb : TS} {pos : Pos} (hp : PassesOwn (model X.prog X.w) X.A X.env X.xe) (hc : X.calm = true) (hi : PI X tg iter wi) (hg : PG X tg g) (hb : PSs X body tb)
  (hs : ∀ x, foldedSetIterable iter X.env x = pure x := by intro _; rfl) : PS X (.For tg iter body [] pos) (tFor wi g tb) := by
 intro pins s σ H D I h
 refine wpAny_For (thn (hi pins s σ H _ I h) λ v s1 h1 => thn h1 λ itv s2 h2 => ?_) hs
 obtain ⟨it, fp, tn, J, H2, e, I2, T, st2, f2, W, ⟨m0, w0⟩, turn⟩ := h2
 subst e
 have stat : ∀ {H' : Hp}, (∀ b ∈ fp, H' b = none) -> ∀ b ∈ fp, FpOk X pins H' b := λ hn b hb => ⟨hn b hb, (f2 b hb).2⟩
 refine codeAny_forLoop_any (λ n s' => ∃ i σ' H', Inv X pins σ' H' s' /\ tn i s'.heap /\ (∀ b ∈ fp, H' b = none) /\ W i n σ' H') ?_ m0 ⟨0, σ, H2, I2, st2, λ b hb => (f2 b hb).1, w0⟩
 rintro n s3 ⟨i, σ3, H3, I3, st3, fr3, w3⟩
 rcases turn i n σ3 H3 w3 with ⟨stop, qn⟩ | ⟨go, N, hN, step⟩
 ·refine wpAny_passesOwn hp (thn (T.done X rfl rfl rfl hc i pins s3 σ3 H3 X.xe I3 (stat fr3) st3 stop) λ r s4 ⟨hr, I4⟩ => ?_)
  subst hr
  exact wpAny_execs_nil ⟨σ3, H3, I4, qn⟩
 ·refine wpAny_passesOwn hp (thn (T.item X rfl rfl rfl hc i pins s3 σ3 H3 X.xe I3 (stat fr3) st3 go) λ r s4 ⟨u, hr, h4⟩ => ?_)
  subst hr
  refine wpAny_passesOwn hp (thn h4 λ _ s5 ⟨x, H5, I5, r5, y5, st5, fr5⟩ => ?_)
  have I5' := I5.pinned (stat fr5) (T.obj _ _ st5)
  refine wpAny_passesOwn hp (thn (hg _ s5 σ3 H5 x u _ I5' r5 (step x H5 y5)) λ _ s6 ⟨σ6, H6, I6, q6⟩ => ?_)
  refine wpAny_passesOwn hp (thn (hb _ s6 σ6 H6 _ I6 q6) λ f s7 q7 => ?_)
  have again : ∀ {σ7 : St} {H7 : Hp}, Inv X (pins ++ q5t fp s5.heap) σ7 H7 s7 -> N σ7 H7 -> ∃ m, m < n /\ ∃ i σ' H', Inv X pins σ' H' s7 /\ tn i s7.heap /\ (∀ b ∈ fp, H' b = none) /\ W i m σ' H' := λ {σ7 H7} I7 n7 => by
   obtain ⟨m', hm, w7⟩ := hN σ7 H7 n7
   refine ⟨m', hm, i + 1, σ7, H7, I7.unpinned, T.keep _ _ _ st5 λ b hb o e => (I7.pin (b, o) (List.mem_append_right _ (List.mem_append_right _ (q2J hb e)))).1, λ b hb => ?_, w7⟩
   obtain ⟨o, e, d⟩ := T.obj _ _ st5 b hb
   exact (I7.pin (b, o) (List.mem_append_right _ (List.mem_append_right _ (q2J hb e)))).2.1
  cases f with
  | next => obtain ⟨σ7, H7, I7, n7⟩ := q7; exact again I7 n7
  | cont => obtain ⟨σ7, H7, I7, n7⟩ := q7; exact again I7 n7
  | brk => obtain ⟨σ7, H7, I7, q7⟩ := q7; exact ⟨σ7, H7, I7.unpinned, q7⟩
  | ret v => obtain ⟨x7, σ7, H7, I7, r7, q7⟩ := q7; exact ⟨x7, σ7, H7, I7.unpinned, r7, q7⟩
end
end L2
namespace L2
open PySem PySem.Spec PyProof.Rows
noncomputable abbrev R2 := V -> V -> Hp -> VK -> Prop
noncomputable def OpR (X : Cx) (f : Value -> Value -> Sem Value) (r : R2) : Prop :=
 ∀ (pins : List (Addr × Obj)) (s : Shared) (σ : St) (H : Hp) (x y : V) (v u : Value) (Q : VK), Inv X pins σ H s -> RelV x v -> RelV y u -> r x y H Q ->
  wpAny (model X.prog X.w) X.A (f v u) (EP X pins σ Q) X.xe s
noncomputable def UnR (X : Cx) (f : Value -> Sem Value) (r : V -> Hp -> VK -> Prop) : Prop :=
 ∀ (pins : List (Addr × Obj)) (s : Shared) (σ : St) (H : Hp) (x : V) (v : Value) (Q : VK), Inv X pins σ H s -> RelV x v -> r x H Q ->
  wpAny (model X.prog X.w) X.A (f v) (EP X pins σ Q) X.xe s
noncomputable def q1L (X : Cx) (f : Value) (r : List V -> Hp -> VK -> Prop) : Prop :=
 ∀ (pins : List (Addr × Obj)) (s : Shared) (σ : St) (H : Hp) (xs : List V) (us : List Value) (Q : VK), Inv X pins σ H s -> Vals xs us -> r xs H Q ->
  wpAny (model X.prog X.w) X.A (call f us) (EP X pins σ Q) X.xe s
noncomputable def TruR (X : Cx) (r : V -> Hp -> (Bool -> Hp -> Prop) -> Prop) : Prop :=
 ∀ (pins : List (Addr × Obj)) (s : Shared) (σ : St) (H : Hp) (x : V) (v : Value) (Q : Bool -> Hp -> Prop), Inv X pins σ H s -> RelV x v -> r x H Q ->
  wpAny (model X.prog X.w) X.A (truthy v) (TP X pins σ Q) X.xe s
noncomputable def tOp (r : R2) (ta tb : TE) : TE := λ σ H Q => ta σ H λ x H1 => tb σ H1 λ y H2 => r x y H2 Q
noncomputable def tUn (r : V -> Hp -> VK -> Prop) (ta : TE) : TE := λ σ H Q => ta σ H λ x H1 => r x H1 Q
noncomputable def rI (C : Int -> Int -> Prop) (g : Int -> Int -> V) : R2 := λ x y H Q => ∃ i j, x = .int i /\ y = .int j /\ C i j /\ Q (g i j) H
noncomputable def rI0 (g : Int -> Int -> V) : R2 := λ x y H Q => ∃ i j, x = .int i /\ y = .int j /\ Q (g i j) H
noncomputable def rU (g : Int -> V) : V -> Hp -> VK -> Prop := λ x H Q => ∃ i, x = .int i /\ Q (g i) H
section
variable {X : Cx} {a b c : Expr} {ta tb tc : TE} {pos : Pos}
theorem binT (ha : PE X a ta) (hb : PE X b tb) {pins : List (Addr × Obj)} {s : Shared} {σ : St} {H : Hp} {R : V -> V -> Hp -> Prop} (I : Inv X pins σ H s)
  (h : ta σ H λ x H1 => tb σ H1 λ y H2 => R x y H2) {Q : Value -> Shared -> Prop} {f : Value -> Value -> Sem Value}
  (hf : ∀ v u s2 x y H2, Inv X pins σ H2 s2 -> RelV x v -> RelV y u -> R x y H2 -> wpAny (model X.prog X.w) X.A (f v u) Q X.xe s2) :
  wpAny (model X.prog X.w) X.A (eval a X.env) (λ v s₁ => wpAny (model X.prog X.w) X.A (eval b X.env) (λ u s₂ => wpAny (model X.prog X.w) X.A (f v u) Q X.xe s₂) X.xe s₁) X.xe s := by
 refine thn (ha pins s σ H _ I h) λ v s1 ⟨x, H1, I1, r1, q1⟩ => ?_
 refine thn (hb pins s1 σ H1 _ I1 q1) λ u s2 ⟨y, H2, I2, r2, q2⟩ => ?_
 exact hf v u s2 x y H2 I2 r1 r2 q2
theorem z3S {op : Operator} {r : R2} (ho : OpR X (binaryOp op) r) (ha : PE X a ta) (hb : PE X b tb) : PE X (.BinOp a op b pos) (tOp r ta tb) := by
 intro pins s σ H Q I h
 exact wpAny_BinOp (binT ha hb I h λ v u s2 x y H2 I2 rx ry q => ho pins s2 σ H2 x y v u Q I2 rx ry q)
theorem z3Z {op : UnaryOp} {r : V -> Hp -> VK -> Prop} (ho : UnR X (unaryOp op) r) (ha : PE X a ta) : PE X (.UnaryOp op a pos) (tUn r ta) := by
 intro pins s σ H Q I h
 exact UnaryOp_ (thn (ha pins s σ H _ I h) λ v s1 ⟨x, H1, I1, r1, q1⟩ => ho pins s1 σ H1 x v Q I1 r1 q1)
theorem opI {f : Value -> Value -> Sem Value} {C : Int -> Int -> Prop} {g : Int -> Int -> Int}
  (rule : ∀ (i j : Int) (t u : Tok) (s : Shared) (Q : Value -> Shared -> Prop) (E : Value -> Shared -> Prop), C i j -> Q (.int (g i j) s.toks) { s with toks := s.toks + 1 } -> wpAny (model X.prog X.w) X.A (f (.int i t) (.int j u)) Q E s) :
  OpR X f (rI C λ i j => .int (g i j)) := by
 intro pins s σ H x y v u Q I rx ry h
 obtain ⟨i, j, rfl, rfl, hc, q⟩ := h
 obtain ⟨t, rfl⟩ := rx
 obtain ⟨t', rfl⟩ := ry
 exact rule i j t t' s _ _ hc ⟨.int (g i j), H, I.tok _, ⟨_, rfl⟩, q⟩
theorem opI0 {f : Value -> Value -> Sem Value} {g : Int -> Int -> Int}
  (rule : ∀ (i j : Int) (t u : Tok) (s : Shared) (Q : Value -> Shared -> Prop) (E : Value -> Shared -> Prop), Q (.int (g i j) s.toks) { s with toks := s.toks + 1 } -> wpAny (model X.prog X.w) X.A (f (.int i t) (.int j u)) Q E s) :
  OpR X f (rI0 λ i j => .int (g i j)) := by
 intro pins s σ H x y v u Q I rx ry h
 obtain ⟨i, j, rfl, rfl, q⟩ := h
 obtain ⟨t, rfl⟩ := rx
 obtain ⟨t', rfl⟩ := ry
 exact rule i j t t' s _ _ ⟨.int (g i j), H, I.tok _, ⟨_, rfl⟩, q⟩
theorem opB0 {f : Value -> Value -> Sem Value} {g : Int -> Int -> Bool}
  (rule : ∀ (i j : Int) (t u : Tok) (s : Shared) (Q : Value -> Shared -> Prop) (E : Value -> Shared -> Prop), Q (.bool (g i j)) s -> wpAny (model X.prog X.w) X.A (f (.int i t) (.int j u)) Q E s) :
  OpR X f (rI0 λ i j => .bl (g i j)) := by
 intro pins s σ H x y v u Q I rx ry h
 obtain ⟨i, j, rfl, rfl, q⟩ := h
 obtain ⟨t, rfl⟩ := rx
 obtain ⟨t', rfl⟩ := ry
 exact rule i j t t' s _ _ ⟨.bl (g i j), H, I, rfl, q⟩
noncomputable def CMul (i j : Int) : Prop := (-(2 ^ 64) < i /\ i < 2 ^ 64) \/ (-(2 ^ 64) < j /\ j < 2 ^ 64)
theorem CMul.ok {i j : Int} (h : CMul i j) : IntMulOk i j := by
 rcases h with ⟨h1, h2⟩ | ⟨h1, h2⟩
 ·exact .of_left (intBits_le_64 h1 h2)
 ·exact .of_right (intBits_le_64 h1 h2)
theorem z3p : OpR X (binaryOp .Add) (rI0 λ i j => .int (i + j)) := opI0 λ _ _ _ _ _ _ _ q => add_int q
theorem z3A : OpR X (binaryOp .Sub) (rI0 λ i j => .int (i - j)) := opI0 λ _ _ _ _ _ _ _ q => sub_int q
theorem z2B : OpR X (binaryOp .Mod) (rI (λ _ j => 0 < j) λ i j => .int (i % j)) := opI λ i j _ _ _ _ _ hc q => by
 have h1 : (0 : Int) < j := hc
 exact mod_int' (by omega) (by rw [Int.fmod_eq_emod_of_nonneg i (by omega)]; exact q)
theorem unI {f : Value -> Sem Value} {g : Int -> Int}
  (rule : ∀ (i : Int) (t : Tok) (s : Shared) (Q : Value -> Shared -> Prop) (E : Value -> Shared -> Prop), Q (.int (g i) s.toks) { s with toks := s.toks + 1 } -> wpAny (model X.prog X.w) X.A (f (.int i t)) Q E s) :
  UnR X f (rU λ i => .int (g i)) := by
 intro pins s σ H x v Q I rx h
 obtain ⟨i, rfl, q⟩ := h
 obtain ⟨t, rfl⟩ := rx
 exact rule i t s _ _ ⟨.int (g i), H, I.tok _, ⟨_, rfl⟩, q⟩
theorem z2N : UnR X (unaryOp .USub) (rU λ i => .int (-i)) := unI λ _ _ _ _ _ q => neg_int q
end
section
variable {X : Cx} {a b c : Expr} {ta tb tc : TE} {pos : Pos}
theorem z2H {pins : List (Addr × Obj)} {σ : St} {H : Hp} {s : Shared} {Q : VK} {k k' : Bool} (I : Inv X pins σ H s) (q : Q (.bl k) H) (e : k = k') : EP X pins σ Q (.bool k') s := by
 subst e
 exact ⟨.bl k, H, I, rfl, q⟩
theorem z4D : OpR X (compareOp .Lt) (rI0 λ i j => .bl (decide (i < j))) := opB0 λ _ _ _ _ _ _ _ q => lt_int q
theorem z4a : OpR X (compareOp .LtE) (rI0 λ i j => .bl (decide (i <= j))) := opB0 λ _ _ _ _ _ _ _ q => le_int q
theorem z3T : OpR X (compareOp .Gt) (rI0 λ i j => .bl (decide (j < i))) := opB0 λ _ _ _ _ _ _ _ q => gt_int q
theorem z2x : OpR X (compareOp .Is) (λ x y H Q => y = .non /\ Q (.bl (decide (x = .non))) H) := by
 intro pins s σ H x y v u Q I rx ry h
 obtain ⟨rfl, q⟩ := h
 cases ry
 refine is_none_gen (z2H I q ?_)
 cases x <;> first
  | (cases rx; rfl)
  | (obtain ⟨t, rfl⟩ := rx; rfl)
theorem OpR.or {f : Value -> Value -> Sem Value} {r r' : R2} (h : OpR X f r) (h' : OpR X f r') : OpR X f (λ x y H Q => r x y H Q \/ r' x y H Q) := by
 intro pins s σ H x y v u Q I rx ry q
 rcases q with q | q
 ·exact h pins s σ H x y v u Q I rx ry q
 ·exact h' pins s σ H x y v u Q I rx ry q
theorem z4Z (b : Expr) {op : CmpOp} (h : op ≠ .In := by decide) (h2 : op ≠ .NotIn := by decide) : behindInMarks op b = false := by
 have e1 : (op == CmpOp.In) = false := by cases op <;> first | rfl | exact absurd rfl h
 have e2 : (op == CmpOp.NotIn) = false := by cases op <;> first | rfl | exact absurd rfl h2
 cases b <;> simp [behindInMarks, e1, e2]
theorem z0T {op : CmpOp} {r : R2} (ho : OpR X (compareOp op) r) (ha : PE X a ta) (hb : PE X b tb) (hm : behindInMarks op b = false) : PE X (.Compare a [op] [b] pos) (tOp r ta tb) := by
 intro pins s σ H Q I h
 exact wpAny_Compare1 (binT ha hb I h λ v u s2 x y H2 I2 rx ry q => ho pins s2 σ H2 x y v u Q I2 rx ry q) hm
noncomputable def z3x (t : TE) : TT := λ σ H Q => t σ H λ x H' => ∃ k, x = .bl k /\ Q k H'
theorem z2c {op : CmpOp} {r : R2} (ho : OpR X (compareOp op) r) (ha : PE X a ta) (hb : PE X b tb) (hm : behindInMarks op b = false) : PT X (.Compare a [op] [b] pos) (z3x (tOp r ta tb)) := by
 intro pins s σ H Q I h
 refine wpAny_isTrue_Compare1 (thn (ha pins s σ H _ I h) λ v s1 ⟨x, H1, I1, r1, q1⟩ => thn (hb pins s1 σ H1 _ I1 q1) λ u s2 ⟨y, H2, I2, r2, q2⟩ =>
  thn (ho pins s2 σ H2 x y v u _ I2 r1 r2 q2) λ c s3 ⟨z, H3, I3, r3, k, e, q3⟩ => ?_) hm
 subst e
 cases r3
 exact wpAny_truthy_bool ⟨H3, I3, q3⟩
noncomputable def q7H (r r' : R2) (ta tb tc : TE) : TE := λ σ H Q => ta σ H λ x H1 => tb σ H1 λ y H2 => r x y H2 λ z H3 => ∃ k, z = .bl k /\
 (if k = true then tc σ H3 λ w' H4 => r' y w' H4 Q else Q (.bl false) H3)
theorem q8W {op op' : CmpOp} {r r' : R2} (ho : OpR X (compareOp op) r) (ho' : OpR X (compareOp op') r') (ha : PE X a ta) (hb : PE X b tb) (hc : PE X c tc)
  (hm : lastMarks [op, op'] [b, c] = false := by with_unfolding_all rfl) : PE X (.Compare a [op, op'] [b, c] pos) (q7H r r' ta tb tc) := by
 intro pins s σ H Q I h
 refine Compare_chain (thn (ha pins s σ H _ I h) λ v s1 ⟨x, H1, I1, r1, q1⟩ => chain_link (thn (hb pins s1 σ H1 _ I1 q1) λ u s2 ⟨y, H2, I2, r2, q2⟩ =>
  thn (ho pins s2 σ H2 x y v u _ I2 r1 r2 q2) λ d s3 ⟨z, H3, I3, r3, k, e, q3⟩ => ?_)) hm
 subst e
 cases r3
 refine wpAny_truthy_bool ?_
 cases k with
 | false => exact ite_ff ⟨.bl false, H3, I3, rfl, q3⟩
 | true => exact ite_tt (chain_last (thn (hc pins s3 σ H3 _ I3 q3) λ w' s4 ⟨z', H4, I4, r4, q4⟩ => ho' pins s4 σ H4 y z' u w' Q I4 r2 r4 q4))
theorem q9F {op op' : CmpOp} {r r' : R2} (ho : OpR X (compareOp op) r) (ho' : OpR X (compareOp op') r') (ha : PE X a ta) (hb : PE X b tb) (hc : PE X c tc)
  (hm : lastMarks [op, op'] [b, c] = false := by with_unfolding_all rfl) : PT X (.Compare a [op, op'] [b, c] pos) (z3x (q7H r r' ta tb tc)) := by
 intro pins s σ H Q I h
 refine isTrue_chain (thn (ha pins s σ H _ I h) λ v s1 ⟨x, H1, I1, r1, q1⟩ => test_link (thn (hb pins s1 σ H1 _ I1 q1) λ u s2 ⟨y, H2, I2, r2, q2⟩ =>
  thn (ho pins s2 σ H2 x y v u _ I2 r1 r2 q2) λ d s3 ⟨z, H3, I3, r3, k, e, q3⟩ => ?_)) hm
 subst e
 cases r3
 refine wpAny_truthy_bool ?_
 cases k with
 | false =>
  obtain ⟨k', e', q'⟩ := q3
  cases e'
  exact ite_ff ⟨H3, I3, q'⟩
 | true =>
  refine ite_tt (test_last (thn (hc pins s3 σ H3 _ I3 q3) λ w' s4 ⟨z', H4, I4, r4, q4⟩ => thn (ho' pins s4 σ H4 y z' u w' _ I4 r2 r4 q4) λ d' s5 ⟨z2, H5, I5, r5, k2, e2, q5⟩ => ?_))
  subst e2
  cases r5
  exact wpAny_truthy_bool ⟨H5, I5, q5⟩
noncomputable def TruV (K : PySem.W.Frag) (x : V) (H : Hp) (k : Bool) : Prop :=
 match x with
 | .non => k = false
 | .bl b => k = b
 | .int i => k = (i != 0)
 | .str y => y.length <= sizeLine /\ k = ((y.length : Int) != 0)
 | .byt y => y.size <= sizeLine /\ k = ((y.size : Int) != 0)
 | .ref p => (∃ xs, SqL K H p xs /\ k = !xs.isEmpty) \/ (∃ xs, SqT K H p xs /\ k = !xs.isEmpty) \/ ∃ kvs, H p = some (.dK kvs) /\ k = !kvs.isEmpty
 | _ => False
theorem q6O {κ : Type} {kvs : List (κ × V)} {vs : List (κ × Value)} (r : KV kvs vs) : (!vs.isEmpty) = !kvs.isEmpty := by
 cases r <;> rfl
theorem q4F {xs : List V} {its : List Value} (r : Vals xs its) : (!its.toArray.isEmpty) = !xs.isEmpty := by
 cases r <;> simp
theorem q4l : (sizeLine : Nat) < 2 ^ 63 := by rw [sizeLine_eq]; decide
theorem q6L : TruR X (λ x H Q => ∃ k, TruV X.K x H k /\ Q k H) := by
 intro pins s σ H x v Q I rx h
 obtain ⟨k, e, q⟩ := h
 have hl := q4l
 have hs : sizeLine = 16777216 := sizeLine_eq
 cases x with
 | non =>
  cases rx
  have e' : k = false := e
  subst e'
  exact truthy_none ⟨H, I, q⟩
 | bl b =>
  cases rx
  have e' : k = b := e
  subst e'
  exact wpAny_truthy_bool ⟨H, I, q⟩
 | int i =>
  obtain ⟨t, rfl⟩ := rx
  have e' : k = (i != 0) := e
  subst e'
  exact PySem.P.truthy_int ⟨H, I, q⟩
 | str y =>
  obtain ⟨t, rfl⟩ := rx
  obtain ⟨hy, e'⟩ : y.length <= sizeLine /\ k = ((y.length : Int) != 0) := e
  subst e'
  exact PySem.P.truthy_str (by omega) ⟨H, I.tok _, q⟩
 | byt y =>
  obtain ⟨t, rfl⟩ := rx
  obtain ⟨hy, e'⟩ : y.size <= sizeLine /\ k = ((y.size : Int) != 0) := e
  subst e'
  exact PySem.W.truthy_bytes (by omega) ⟨H, I.tok _, q⟩
 | ref p =>
  cases rx
  have e' : (∃ xs, SqL X.K H p xs /\ k = !xs.isEmpty) \/ (∃ xs, SqT X.K H p xs /\ k = !xs.isEmpty) \/ ∃ kvs, H p = some (.dK kvs) /\ k = !kvs.isEmpty := e
  rcases e' with ⟨xs, hx, e'⟩ | ⟨xs, hx, e'⟩ | ⟨kvs, hx, e'⟩
  ·subst e'
   obtain ⟨its, r, pl, hz⟩ := I.list hx
   have hlen := r.length
   exact wpAny_truthy_list pl.isList (by simp only [List.size_toArray]; omega) ⟨H, I.tok _, by rw [q4F r]; exact q⟩
  ·subst e'
   obtain ⟨its, r, pl, hz⟩ := I.tuple hx
   have hlen := r.length
   exact truthy_tuple pl (by simp only [List.size_toArray]; omega) ⟨H, I.tok _, by rw [q4F r]; exact q⟩
  ·subst e'
   obtain ⟨hz, hS, vs, r, m⟩ : kvs.length <= sizeLine /\ (p == sysModules) = false /\ ∃ vs, KV kvs vs /\ s.heap.DictOf (q6g X.prog X.w) p vs := I.hok p _ hx
   have hlen : kvs.length = vs.length := Paired.length r
   exact wpAny_truthy_dict hS m (by omega) ⟨H, I.tok _, by rw [q6O r]; exact q⟩
 | _ => exact (show False from e).elim
theorem q6C (ha : PE X a ta) (he : ∀ whole, isTrue a X.env whole = (do let v ← whole; standAt a.pos; holding [v] (truthy v))) :
  PT X a (λ σ H Q => ta σ H λ x H' => ∃ k, TruV X.K x H' k /\ Q k H') := by
 intro pins s σ H Q I h
 exact isTrue_plain (thn (ha pins s σ H _ I h) λ v s1 ⟨x, H1, I1, r1, q1⟩ => q6L pins s1 σ H1 x v Q I1 r1 q1) (he _)
theorem q5M {x : V} {us : List Value} (r : Vals [x] us) : ∃ u, us = [u] /\ RelV x u := by
 cases r with
 | cons r1 r2 => cases r2; exact ⟨_, rfl, r1⟩
theorem q6e {x y : V} {us : List Value} (r : Vals [x, y] us) : ∃ u w', us = [u, w'] /\ RelV x u /\ RelV y w' := by
 cases r with
 | cons r1 r2 =>
  cases r2 with
  | cons r3 r4 => cases r4; exact ⟨_, _, rfl, r1, r3⟩
theorem q8y (hc : X.calm = true) : q1L X (.builtin "max") (λ xs H Q => ∃ i j, xs = [.int i, .int j] /\ Q (.int (if j > i then j else i)) H) := by
 intro pins s σ H xs us Q I r h
 obtain ⟨i, j, rfl, q⟩ := h
 obtain ⟨u, w', rfl, ⟨t, rfl⟩, ⟨t', rfl⟩⟩ := q6e r
 refine max_two_ints (I.ok.hd hc) λ h' tk k => ⟨_, H, I.kept k, ?_, q⟩
 by_cases hj : j > i
 ·rw [if_pos hj, if_pos hj]; exact ⟨_, rfl⟩
 ·rw [if_neg hj, if_neg hj]; exact ⟨_, rfl⟩
theorem q8F (hc : X.calm = true) : q1L X (.builtin "min") (λ xs H Q => ∃ i j, xs = [.int i, .int j] /\ Q (.int (if j < i then j else i)) H) := by
 intro pins s σ H xs us Q I r h
 obtain ⟨i, j, rfl, q⟩ := h
 obtain ⟨u, w', rfl, ⟨t, rfl⟩, ⟨t', rfl⟩⟩ := q6e r
 refine min_two_ints (I.ok.hd hc) λ h' tk k => ⟨_, H, I.kept k, ?_, q⟩
 by_cases hj : j < i
 ·rw [if_pos hj, if_pos hj]; exact ⟨_, rfl⟩
 ·rw [if_neg hj, if_neg hj]; exact ⟨_, rfl⟩
end
end L2
namespace L2
open PySem PySem.Spec PyProof.Rows
structure ObjM (h : Heap) (x dx C : Addr) (mA : Str -> Option Value) : Prop where
 obj : h.get? x = some (PySem.W.instObj C dx)
 ns : h.Ns1 dx mA
 ne : dx ≠ x
section
variable {prog : Program} {w : World} {A : Around} {E : Value -> Shared -> Prop} {s : Shared} {K : PySem.W.Frag} {x dx C f : Addr} {mA : Str -> Option Value} {name : Str} {v : Value}
end
section
variable {P : Program} {w : World} {H H' : Hp} {h h' : Heap} {a C dx : Addr} {fs fs' : List (Str × V)}
end
structure Cls (K : PySem.W.Frag) (C : Addr) : Prop where
 pg : PySem.W.plainGet K C Str.empty = true
 hd : PySem.W.hasDictIn K C = true
 po : PySem.W.plainOver K C = true
 sa : PySem.W.findIn K (.ref C) "__setattr__" = some (some (.builtin "object.__setattr__"))
structure Con (K : PySem.W.Frag) (C : Addr) (f : Str) (v : V) (u : Value) : Prop where
 at_ : PySem.W.findIn K (.ref C) f = some (some u)
 rel : RelV v u
 get : PySem.W.specialIn K u "__get__" = some none
 cp : PySem.W.copiedNames.contains f = false
structure Meth (K : PySem.W.Frag) (C : Addr) (m : Str) (f : Addr) : Prop where
 at_ : PySem.W.findIn K (.ref C) m = some (some (.ref f))
 fn : PySem.W.isFn K (.ref f) = true
 kp : PySem.W.keepIn K (.ref f) = true
section
variable {X : Cx} {pins : List (Addr × Obj)} {σ : St} {H : Hp} {s : Shared} {a C dx : Addr} {fs : List (Str × V)} {f : Str} {v : V} {A : Around} {E : Value -> Shared -> Prop}
end
section
variable {X : Cx} {o e value : Expr} {f : Str} {pos pos' tpos : Pos} {ta tv : TE}
end
section
variable {X : Cx} {pins : List (Addr × Obj)} {σ : St} {H : Hp} {s : Shared} {A : Around} {E : Value -> Shared -> Prop} {Q : Value -> Shared -> Prop} {c : Value} {b : Bool}
inductive TyOf (K : PySem.W.Frag) (H : Hp) : V -> Value -> Prop where
 | non : TyOf K H .non (.type "NoneType")
 | bl (x : Bool) : TyOf K H (.bl x) (.type "bool")
 | int (i : Int) : TyOf K H (.int i) (.type "int")
 | str (x : Str) : TyOf K H (.str x) (.type "str")
 | flt (x : UInt64) : TyOf K H (.flt x) (.type "float")
 | lst {a : Addr} {xs : List V} (e : H a = some (.lst xs)) : TyOf K H (.ref a) (.type "list")
 | frz {a : Addr} {o : Obj} {xs : List V} (e : H a = some (.frz o (.lst xs))) : TyOf K H (.ref a) (.type "list")
 | tup {a : Addr} {xs : List V} (e : H a = some (.tup xs)) : TyOf K H (.ref a) (.type "tuple")
 | dK {a : Addr} {kvs : List (Key × V)} (e : H a = some (.dK kvs)) : TyOf K H (.ref a) (.type "dict")
 | dT {a : Addr} {kvs : List (List Key × V)} (e : H a = some (.dT kvs)) : TyOf K H (.ref a) (.type "dict")
 | ins {a C dx : Addr} {fs : List (Str × V)} (e : H a = some (.ins C dx fs)) (cl : Cls K C) (ha : PySem.W.findIn K (.ref C) "__class__" = some (some (.builtin "object.__class__")))
   (hn : PySem.W.specialIn K (.builtin "object.__class__") "__get__" = some (some (.builtin "getset_descriptor.__get__"))) (htk : PySem.W.takesIn K (.builtin "object.__class__") = some true)
   (hm : PySem.W.mroIn K C (.type "object") = some true) : TyOf K H (.ref a) (.ref C)
end
end L2
namespace L2
open PySem PySem.Spec PyProof.Rows
structure Room (k : Nat) (A : Around) : Prop where
 hd : A.handled = none
 dp : A.depth + 3 * k + 5 < recursionLimit
 un : A.units + 16 * k + 200 < cLine
theorem Room.deeper {k : Nat} {A : Around} (r : Room (k + 1) A) (env : Env) : Room k (A.deeper env) :=
 ⟨r.hd, by have := r.dp; show A.depth + 1 + 3 * k + 5 < _; omega, by have := r.un; show A.units + 3 + 16 * k + 200 < _; omega⟩
theorem Room.depth {k : Nat} {A : Around} (r : Room k A) : A.depth < recursionLimit := by have := r.dp; omega
theorem Room.units {k : Nat} {A : Around} (r : Room k A) : A.units + 64 < cLine := by have := r.un; omega
noncomputable def tNil : TA := λ _ H Q => Q [] H
noncomputable def z4K (ta : TE) (tr : TA) : TA := λ σ H Q => ta σ H λ x H1 => tr σ H1 λ xs H2 => Q (x :: xs) H2
section
variable {X : Cx} {e : Expr} {es : List Expr} {te : TE} {t : TA} {pos : Pos}
theorem q2C : PA X [] tNil := λ _ _ _ _ H Q I h => Calls.spliced_nil ⟨[], H, I, .nil, h⟩
theorem q0N (ha : PE X e te) (hr : PA X es t) (hs : starEach (e :: es) X.env = (false, eval e X.env) :: starEach es X.env := by rfl) : PA X (e :: es) (z4K te t) := by
 intro pos pins s σ H Q I h
 rw [hs]
 show wpAny _ _ (spliced ((false, eval e X.env) :: backTo pos (starEach es X.env))) _ _ s
 refine Calls.spliced_cons (thn (ha pins s σ H _ I h) λ u s1 ⟨x, H1, I1, r1, q1⟩ => ?_)
 exact thn (hr pos pins s1 σ H1 _ I1 q1) λ us s2 ⟨xs, H2, I2, r2, q2⟩ => ⟨x :: xs, H2, I2, .cons r1 r2, q2⟩
noncomputable def tTup (t : TA) : TE := λ σ H Q => t σ H λ xs H1 => xs.length <= sizeLine /\ ∀ p, H1 p = none -> Q (.ref p) (upd H1 p (.tup xs))
noncomputable def tLst (t : TA) : TE := λ σ H Q => t σ H λ xs H1 => xs.length <= sizeLine /\ ∀ p, H1 p = none -> Q (.ref p) (upd H1 p (.lst xs))
theorem q7t {x1} (h : PA X es t) : PE X (.Tuple es x1 pos) (tTup t) := by
 intro pins s σ H Q I hq
 refine wpAny_Tuple_spliced (thn (h pos pins s σ H _ I hq) λ us s1 ⟨xs, H1, I1, r, z, q⟩ => ⟨by rw [← r.length]; exact z, ?_⟩)
 have hf : H1 s1.heap.objs.size = none := I1.hok.fresh (Nat.le_refl _)
 refine ⟨.ref s1.heap.objs.size, upd H1 s1.heap.objs.size (.tup xs), I1.laid (t' := s1.toks) (λ b u e => Heap.get?_push_of_some _ e) (Nat.le_refl _) ?_, rfl, q _ hf⟩
 exact ⟨z, us, r, ⟨_, Heap.get?_push_size _ rfl, ⟨rfl, rfl⟩, _, rfl⟩⟩
theorem z2D (h : PA X es t) : PE X (.List es pos) (tLst t) := by
 intro pins s σ H Q I hq
 refine wpAny_List_spliced (thn (h pos pins s σ H _ I hq) λ us s1 ⟨xs, H1, I1, r, z, q⟩ => ⟨by rw [← r.length]; exact z, ?_⟩)
 have hf : H1 s1.heap.objs.size = none := I1.hok.fresh (Nat.le_refl _)
 refine ⟨.ref s1.heap.objs.size, upd H1 s1.heap.objs.size (.lst xs), I1.laid (t' := s1.toks) (λ b u e => Heap.get?_push_of_some _ e) (Nat.le_refl _) ?_, rfl, q _ hf⟩
 exact ⟨z, us, 0, r, Heap.get?_push_size _ rfl⟩
end
noncomputable abbrev Sp := List V -> Hp -> VK -> XK -> Prop
noncomputable abbrev CXT := List Env -> Hp -> Shared -> XK -> Value -> Shared -> Prop
structure Env0 (P : Program) (w : World) (K : PySem.W.Frag) (mg : Str -> Option Value) (base : Heap) (A : Around) (outer : List Env) (s : Shared) (H : Hp) : Prop where
 frames : A.frames = some outer
 mod : Mod K mg base
 bs : ∀ b o, base.get? b = some o -> s.heap.get? b = some o /\ H b = none
 bsz : base.objs.size <= s.heap.objs.size
 funs : s.heap.FunFrames base outer
 frf : ∀ b ∈ frs outer, H b = none
 hok : HOk P w H s.heap
 bare : AllBare s.gens
noncomputable def CE (outer : List Env) (P : Program) (w : World) (H : Hp) (s : Shared) (Q : VK) (u : Value) (s' : Shared) : Prop :=
 ∃ v H', s'.os = s.os /\ AllBare s'.gens /\ Un (frs outer) [] H H' s.heap s'.heap /\ HOk P w H' s'.heap /\ RelV v u /\ Q v H'
noncomputable def CR (CX : CXT) (outer : List Env) (P : Program) (w : World) (H : Hp) (s : Shared) (Q : VK) (E : XK) (r : Result) (s' : Shared) : Prop :=
 match r with
 | .ok (.ret u) => CE outer P w H s Q u s'
 | .ok _ => False
 | .error e => CX outer H s E e s'
structure FnOk (P : Program) (w : World) (K : PySem.W.Frag) (mg : Str -> Option Value) (base : Heap) (CX : CXT) (k : Nat) (f : Addr) (fd : FuncData) (ps : List Str) (sp : Sp) : Prop where
 len : ∀ vs H Q E, sp vs H Q E -> vs.length = ps.length
 run : ∀ (A : Around) (outer : List Env) (s : Shared) (H : Hp) (args : Args) (us : List Value) (vs : List V) (Q : VK) (E : XK), Room k A -> Env0 P w K mg base A outer s H -> BindsTo s fd args (ps.zip us) -> Vals vs us -> sp vs H Q E ->
  codeAny (model P w) A (.call (.ref f) args) (CR CX outer P w H s Q E) s
section
variable {X : Cx} {pins : List (Addr × Obj)} {σ : St} {H : Hp} {s s' : Shared}
theorem Inv.env0 (I : Inv X pins σ H s) : Env0 X.prog X.w X.K X.mg X.base X.A X.stack s H :=
 ⟨I.ok.frames, I.ok.mod, I.bs, Nat.le_trans I.ok.bsz I.sz, I.stack, I.stkFree, I.hok, I.bare⟩
theorem Inv.after {Q : VK} {u : Value} (I : Inv X pins σ H s) (h : CE X.stack X.prog X.w H s Q u s') : EP X pins σ Q u s' := by
 obtain ⟨v, H', os, bare, un, hok, r, q⟩ := h
 obtain ⟨hh, g, d, t, os'⟩ := s'
 obtain rfl : os' = s.os := os
 exact ⟨v, H', I.call (h' := hh) (g' := g) (d' := d) (t' := t) (ch := []) un hok bare (λ b z => absurd z (by simp)), r, q⟩
end
noncomputable def q2T (K : PySem.W.Frag) (fd : FuncData) (ps : List Str) (ds : List Value) : Prop :=
 ∀ (s : Shared) (us : List Value), K.In s.heap -> (us ++ ds).length = ps.length -> BindsTo s fd ⟨us, []⟩ (ps.zip (us ++ ds))
theorem q2T.all {K : PySem.W.Frag} {fd : FuncData} {ps : List Str} (h : ∀ us : List Value, us.length = ps.length -> bindArgs fd ⟨us, []⟩ = pure (ps.zip us)) : q2T K fd ps [] := λ s us _ hl => by
 rw [List.append_nil] at hl ⊢
 exact .of_eq (h us hl)
noncomputable def q8k (CX : CXT) (X : Cx) (E : XK) : Prop := ∀ (pins : List (Addr × Obj)) (σ : St) (H : Hp) (s : Shared) (e : Value) (s' : Shared), Inv X pins σ H s -> CX X.stack H s E e s' -> X.xe e s'
section
variable {X : Cx} {CX : CXT} {k : Nat} {f C : Addr} {fd : FuncData} {ps : List Str} {sp : Sp} {dvs : List V} {ds : List Value} {E : XK} {x m : Str} {p pos apos : Pos} {e o : Expr} {es : List Expr} {ta : TE} {t : TA}
structure Mk (K : PySem.W.Frag) (C f : Addr) : Prop where
 makes : PySem.W.makesIn K C = true
 init : PySem.W.findIn K (.ref C) "__init__" = some (some (.ref f))
 fn : PySem.W.isFn K (.ref f) = true
 kp : PySem.W.keepIn K (.ref C) = true
end
section
variable {X : Cx} {CX : CXT} {k : Nat} {f C : Addr} {fd : FuncData} {ps ks : List Str} {sp : Sp} {E : XK} {x m : Str} {p pos apos kpos : Pos} {e o : Expr} {es : List Expr} {kws : List Keyword} {te ta : TE} {t tk : TA} {nm : Option Str}
structure KBinds (K : PySem.W.Frag) (fd : FuncData) (ps ks : List Str) (g : List Value -> List Value -> List Value) (gV : List V -> List V -> List V) : Prop where
 to : ∀ (s : Shared) (us ws : List Value), K.In s.heap -> (g us ws).length = ps.length -> BindsTo s fd ⟨us, ks.zip ws⟩ (ps.zip (g us ws))
 rel : ∀ {vs : List V} {us : List Value} {zs : List V} {ws : List Value}, Vals vs us -> Vals zs ws -> Vals (gV vs zs) (g us ws)
variable {g : List Value -> List Value -> List Value} {gV : List V -> List V -> List V}
end
structure FnScope (N P : List Str) (sc : Scope) : Prop where
 kind : sc.kind = .function
 co : sc.isCoroutine = false
 gen : sc.isGenerator = false
 nd : N.Nodup
 pre : N.take P.length = P
 par : ∀ x ∈ P, sc.names.lookup x = some .local \/ sc.names.lookup x = some .cell
 nofree : ∀ y ∈ sc.names, y.2 ≠ .free
theorem q5F {kindOf : Str -> Option NameKind} {x : Str} : ∀ {binds : List (Str × Value)} {m : Str -> Option Value}, (∀ v, (x, v) ∉ binds) -> bindL kindOf binds m x = m x
 | [], _, _ => rfl
 | (n, v) :: r, m, h => by
  unfold bindL
  rw [q5F λ w hw => h w (List.mem_cons_of_mem _ hw)]
  split
  ·have : x ≠ n := by rintro rfl; exact h v List.mem_cons_self
   simp [this]
  ·rfl
theorem q5C {kindOf : Str -> Option NameKind} {x : Str} : ∀ {binds : List (Str × Value)} {m : Str -> Option Value}, (∀ v, (x, v) ∉ binds) -> bindC kindOf binds m x = m x
 | [], _, _ => rfl
 | (n, v) :: r, m, h => by
  unfold bindC
  rw [q5C λ w hw => h w (List.mem_cons_of_mem _ hw)]
  split
  ·rfl
  ·have : x ≠ n := by rintro rfl; exact h v List.mem_cons_self
   simp [this]
theorem q5r {kindOf : Str -> Option NameKind} {x : Str} {v : Value} : ∀ {P : List Str} {vs : List Value} {i : Nat} {m : Str -> Option Value}, P.Nodup -> P[i]? = some x -> vs[i]? = some v -> kindOf x = some .local ->
  bindL kindOf (P.zip vs) m x = some v
 | [], _, _, _, _, h, _, _ => by simp at h
 | _ :: _, [], _, _, _, _, h, _ => by simp at h
 | p :: P, w :: vs, 0, m, nd, h1, h2, hk => by
  simp at h1 h2; subst h1; subst h2
  show bindL kindOf ((p, w) :: P.zip vs) m p = _
  unfold bindL
  rw [q5F λ v hv => (List.nodup_cons.mp nd).1 (List.of_mem_zip hv).1, if_pos hk]
  simp
 | p :: P, w :: vs, i + 1, m, nd, h1, h2, hk => by
  show bindL kindOf ((p, w) :: P.zip vs) m x = _
  unfold bindL
  exact q5r (i := i) (List.nodup_cons.mp nd).2 (by simpa using h1) (by simpa using h2) hk
theorem q5O {kindOf : Str -> Option NameKind} {x : Str} {v : Value} : ∀ {P : List Str} {vs : List Value} {i : Nat} {m : Str -> Option Value}, P.Nodup -> P[i]? = some x -> vs[i]? = some v -> kindOf x ≠ some .local ->
  bindC kindOf (P.zip vs) m x = some v
 | [], _, _, _, _, h, _, _ => by simp at h
 | _ :: _, [], _, _, _, _, h, _ => by simp at h
 | p :: P, w :: vs, 0, m, nd, h1, h2, hk => by
  simp at h1 h2; subst h1; subst h2
  show bindC kindOf ((p, w) :: P.zip vs) m p = _
  unfold bindC
  rw [q5C λ v hv => (List.nodup_cons.mp nd).1 (List.of_mem_zip hv).1, if_neg hk]
  simp
 | p :: P, w :: vs, i + 1, m, nd, h1, h2, hk => by
  show bindC kindOf ((p, w) :: P.zip vs) m x = _
  unfold bindC
  exact q5O (i := i) (List.nodup_cons.mp nd).2 (by simpa using h1) (by simpa using h2) hk
noncomputable def start (N : List Str) (vs : List V) : St := vs.map some ++ List.replicate (N.length - vs.length) none
noncomputable def cxOf (CX : CXT) (P : Program) (w : World) (K : PySem.W.Frag) (mg : Str -> Option Value) (base : Heap) (N : List Str) (qual : Str) (scope : Scope) (f : Addr) (cd : Value) (A : Around) (outer : List Env) (s : Shared) (H : Hp) (E : XK) : Cx where
 prog := P
 w := w
 K := K
 mg := mg
 base := base
 A := A.deeper (envOfC qual scope s.heap.objs.size f cd)
 N := N
 s₀ := s
 H₀ := H
 env := envOfC qual scope s.heap.objs.size f cd
 outer := outer
 stack := envOfC qual scope s.heap.objs.size f cd :: outer
 ex := []
 calm := true
 fn := λ _ => true
 pn := []
 xe := λ e s' => wpAny (model P w) (A.deeper (envOfC qual scope s.heap.objs.size f cd)) (leaving (envOfC qual scope s.heap.objs.size f cd) e) (λ _ s'' => CX outer H s E e s'') (λ e' s'' => CX outer H s E e' s'') s'
theorem q6M {sc : Scope} {n : Nat} {x : Str} (h : sc.names.lookup x = some .cell) : ∃ c, (cellsFrom n sc.names []).lookup x = some c := by
 have q := PySem.W.cellsFrom_some sc.names n [] (.inl h)
 exact Option.isSome_iff_exists.mp q
theorem q7x {CX : CXT} {P : Program} {w : World} {K : PySem.W.Frag} {mg : Str -> Option Value} {base : Heap} {N ps : List Str} {qual : Str} {scope : Scope} {f : Addr} {cd : Value} {A : Around} {outer : List Env} {s s1 : Shared} {H : Hp} {E : XK} {us : List Value} {vs : List V}
  (S : FnScope N ps scope) (hd : A.handled = none) (e0 : Env0 P w K mg base A outer s H) (hl : vs.length = ps.length) (r : Vals vs us)
  (x : InCallC s s.heap.objs.size (bindL (envOfC qual scope s.heap.objs.size f cd).kindOf (ps.zip us) λ _ => none) (cellsFrom (s.heap.objs.size + 1) scope.names []) (bindC (envOfC qual scope s.heap.objs.size f cd).kindOf (ps.zip us) λ _ => none) s1) :
  Inv (cxOf CX P w K mg base N qual scope f cd A outer s H E) [] (start N vs) H s1 := by
 have hpl : ps.length <= N.length := by have := congrArg List.length S.pre; rw [List.length_take] at this; omega
 obtain ⟨h1, tk, rfl, hk⟩ := x.done
 have noA : ∀ b : Addr, b ∉ (cxOf CX P w K mg base N qual scope f cd A outer s H E).ex := λ b z => absurd (show b ∈ ([] : List Addr) from z) (by simp)
 refine ⟨⟨e0.mod, S.kind, rfl, rfl, Nat.le_refl _, λ y z c h1 h2 => ?_, λ y hy => ?_, λ y c _ h => ?_, λ _ => hd, Around.frames_deeper e0.frames, .inr ⟨rfl, rfl⟩, λ b z => absurd z (noA b), e0.bs, e0.bsz, λ b _ _ => noA b, λ b z => absurd z (noA b), e0.funs, e0.frf⟩,
  rfl, e0.bare, Un.kept hk, ⟨_, x.toInCall.ns, λ i y v h1 h2 h3 => ?_⟩, λ y c h => ⟨_, x.cell y c h⟩, e0.hok.fresh (Nat.le_refl _), λ y c h => ?_, λ p hp => absurd (show p ∈ ([] : List (Addr × Obj)) from hp) (by simp), e0.hok.kept hk, ?_⟩
 ·exact name_of_addr x.apart (PySem.mem_of_lookup h1) (PySem.mem_of_lookup h2)
 ·have hy : scope.names.lookup y = some .cell \/ scope.names.lookup y = some .free := hy
  rcases hy with hy | hy
  ·exact q6M hy
  ·exact absurd rfl (S.nofree _ (PySem.mem_of_lookup hy))
 ·exact Nat.le_of_lt (x.above y c (PySem.mem_of_lookup h))
 ·have hi : i < vs.length := by
   unfold start at h2
   by_cases hi : i < vs.length
   ·exact hi
   ·rw [List.getElem?_append_right (by simpa using hi)] at h2
    rw [List.getElem?_replicate] at h2
    split at h2 <;> cases h2
  have ha : vs[i]? = some v := by
   unfold start at h2
   rw [List.getElem?_append_left (by simpa using hi), List.getElem?_map] at h2
   cases e : vs[i]? with
   | none => rw [e] at h2; cases h2
   | some a => rw [e] at h2; cases h2; rfl
  obtain ⟨u, hu, rv⟩ := r.get ha
  have hp : ps[i]? = some y := by
   rw [← S.pre, List.getElem?_take_of_lt (by omega)]; exact h1
  have ndP : ps.Nodup := by rw [← S.pre]; exact S.nd.sublist (List.take_sublist _ _)
  refine ⟨u, rv, ?_⟩
  rcases S.par y (List.mem_of_getElem? hp) with k | k
  ·exact .inl ⟨k, q5r ndP hp hu k⟩
  ·obtain ⟨c, e⟩ := q6M (n := s.heap.objs.size + 1) k
   refine .inr ⟨.inl k, c, e, ?_⟩
   have q := x.cell y c e
   rw [q5O ndP hp hu (by show scope.names.lookup y ≠ _; rw [k]; decide)] at q
   exact q
 ·exact e0.hok.fresh (Nat.le_of_lt (x.above y c (PySem.mem_of_lookup h)))
 ·unfold start
  show _ = N.length
  rw [List.length_append, List.length_map, List.length_replicate]
  omega
theorem z4J {CX : CXT} {P : Program} {w : World} {K : PySem.W.Frag} {mg : Str -> Option Value} {base : Heap} {k : Nat} {f : Addr} {name qual : Str} {params : Arguments} {body : List Stmt} {scope : Scope} {dV kV doc pm cdv ct oc : Value} {an od : Option Addr}
  {osl : Array (Option Value)} {N ps : List Str} {sp : Sp} (lk : K.lookup f = some ⟨oc, od, .func (PySem.W.fnOf name qual params body scope dV kV doc pm an cdv ct), osl⟩) (hcd : PySem.W.codeIn K cdv qual = true) (S : FnScope N ps scope)
  (len : ∀ vs H Q E, sp vs H Q E -> vs.length = ps.length)
  (hbody : ∀ (A : Around) (outer : List Env) (s : Shared) (H : Hp) (vs : List V) (Q : VK) (E : XK), Room k (A.deeper (envOfC qual scope s.heap.objs.size f cdv)) -> sp vs H Q E ->
   ∃ t, PSs (cxOf CX P w K mg base N qual scope f cdv A outer s H E) body t /\ t { nx := λ _ H' => Q .non H', rt := Q } (start N vs) H) :
  FnOk P w K mg base CX (k + 1) f (PySem.W.fnOf name qual params body scope dV kV doc pm an cdv ct) ps sp := by
 refine ⟨len, λ A outer s H args us vs Q E hr e0 hb r hsp => ?_⟩
 have hl := len _ _ _ _ hsp
 have KX : K.In s.heap := e0.mod.kin.keeps λ b o e => (e0.bs b o e).1
 have lim : s.heap.NoLimit := e0.mod.nolimit.keeps λ b o e => (e0.bs b o e).1
 have hkind : ∀ y ∈ ps.zip us, scope.names.lookup y.1 = some .local \/ (scope.names.lookup y.1 = some .cell /\ ((cellsFrom (s.heap.objs.size + 1) scope.names []).lookup y.1).isSome = true) := λ ⟨n, v⟩ hy => by
  rcases S.par n (List.of_mem_zip hy).1 with q | q
  ·exact .inl q
  ·exact .inr ⟨q, PySem.W.cellsFrom_some _ _ _ (.inl q)⟩
 refine codeAny_call_function hr.depth (KX _ _ lk) rfl S.co S.gen rfl (PySem.W.codeRec_of KX hcd) (hb _ _ _ _ ?_)
 refine wpAny_newFunctionEnv_cells S.kind hkind λ env he s1 x => ?_
 subst he
 refine ⟨lim.keeps x.toInCall.keep, codeAny_func ?_⟩
 obtain ⟨t, ht, hq⟩ := hbody A outer s H vs Q E (hr.deeper _) hsp
 have I : Inv (cxOf CX P w K mg base N qual scope f cdv A outer s H E) [] (start N vs) H s1 := q7x S hr.hd e0 hl r x
 refine wpAny_mono (ht [] s1 (start N vs) H _ I hq) (λ fl s' hs => ?_) λ e s' hs => hs
 have fin : ∀ {σ' : St} {H' : Hp} {v : V} {u : Value}, Inv (cxOf CX P w K mg base N qual scope f cdv A outer s H E) [] σ' H' s' -> RelV v u -> Q v H' -> CE outer P w H s Q u s' :=
  λ {σ' H' v u} J rv q => ⟨v, H', J.os, J.bare, J.base, J.hok, rv, q⟩
 cases fl with
 | ret u =>
  obtain ⟨v, σ', H', J, rv, q⟩ := hs
  exact fin J rv q
 | next =>
  obtain ⟨σ', H', J, q⟩ := hs
  exact fin (v := V.non) (u := Value.none) J rfl q
 | brk =>
  obtain ⟨_, _, _, q⟩ := hs
  exact False.elim q
 | cont =>
  obtain ⟨_, _, _, q⟩ := hs
  exact False.elim q
end L2
namespace L2
open PySem PySem.Spec PyProof.Rows
section
variable {X : Cx} {x : Str} {p pos : Pos} {e : Expr} {es : List Expr} {t : TA} {id T : String} {r : List V -> Hp -> VK -> Prop}
noncomputable def tCB (r : List V -> Hp -> VK -> Prop) (t : TA) : TE := λ σ H Q => t σ H λ vs H1 => r vs H1 Q
theorem q3Q (hc : q1L X (.builtin id) r) (hg : Gl X x) (hm : X.mg x = none) (hv : bootBuiltins x = some (.builtin id)) (ha : PA X (e :: es) t) (hn : x ≠ "__name__" := by decide) (hdb : (x == ("__debug__" : Str)) = false := by decide)
  (he : starEach (e :: es) X.env = (false, eval e X.env) :: starEach es X.env := by rfl) (hpl : (backTo pos (starEach es X.env)).any (·.1) = false := by rfl) : PE X (.Call (.Name x p) (e :: es) [] pos) (tCB r t) := by
 intro pins s σ H Q I h
 refine wpAny_Call_Name_kw (q4K I hg hm hv ?_ hn hdb)
 exact PyProof.Rows.callWith_builtin1 (thn (ha pos pins s σ H _ I h) λ us s1 ⟨vs, H1, I1, r1, q1⟩ => hc pins s1 σ H1 vs us Q I1 r1 q1) he hpl
theorem q8V (hc : q1L X (.type T) r) (hg : Gl X x) (hm : X.mg x = none) (hv : bootBuiltins x = some (.type T)) (ha : PA X (e :: es) t) (hn : x ≠ "__name__" := by decide) (hdb : (x == ("__debug__" : Str)) = false := by decide)
  (he : starEach (e :: es) X.env = (false, eval e X.env) :: starEach es X.env := by rfl) (hpl : (backTo pos (starEach es X.env)).any (·.1) = false := by rfl) : PE X (.Call (.Name x p) (e :: es) [] pos) (tCB r t) := by
 intro pins s σ H Q I h
 refine wpAny_Call_Name_kw (q4K I hg hm hv ?_ hn hdb)
 exact PyProof.Rows.callWith_type1 (thn (ha pos pins s σ H _ I h) λ us s1 ⟨vs, H1, I1, r1, q1⟩ => hc pins s1 σ H1 vs us Q I1 r1 q1) he hpl
end
end L2
namespace HT
open PySem PyProof.Rows
section
open PySem.SeqAt
open PySem.AutoSeq1 (wpAny_loadPart')
open PySem.MeetsSeq PySem.MeetsSeq2 PySem.MeetsSeq3
end
section
variable {prog : Program} {w : World} {A : Around} {E : Value -> Shared -> Prop} {s : Shared}
noncomputable def sIx (n d : Nat) : Option Int -> Nat
 | none => d
 | some v => if v < 0 then (v + (n : Int)).toNat else min v.toNat n
theorem z2G (n d : Nat) (hd : d <= n) (o : Option Int) : sIx n d o <= n := by
 cases o with
 | none => exact hd
 | some v =>
  show (if v < 0 then (v + (n : Int)).toNat else min v.toNat n) <= n
  by_cases hv : v < 0
  ·rw [if_pos hv]; omega
  ·rw [if_neg hv]; exact Nat.min_le_right _ _
theorem q8q (v : Int) (n d : Nat) : (if v < 0 then max (v + (n : Int)) 0 else min v (n : Int)) = ((sIx n d (some v) : Nat) : Int) := by
 show (if v < 0 then max (v + (n : Int)) 0 else min v (n : Int)) = (((if v < 0 then (v + (n : Int)).toNat else min v.toNat n) : Nat) : Int)
 by_cases hv : v < 0
 ·simp only [if_pos hv]; omega
 ·simp only [if_neg hv]; omega
theorem q6P (lo hi : Option Int) (n : Nat) : Builtin.Slice.sliceAdjust lo hi 1 (n : Int) = (((sIx n 0 lo : Nat) : Int), ((sIx n n hi : Nat) : Int)) := by
 have h1 : ¬ ((1 : Int) < 0) := by omega
 unfold Builtin.Slice.sliceAdjust
 simp only [h1, if_false]
 refine Prod.ext ?_ ?_
 ·cases lo with
  | none => rfl
  | some v => exact q8q v n 0
 ·cases hi with
  | none => rfl
  | some v => exact q8q v n n
theorem q6U (i j : Nat) : Builtin.Slice.slicePlaces (i : Int) (j : Int) 1 = j - i := by
 unfold Builtin.Slice.slicePlaces
 have h1 : (1 : Int) > 0 := by omega
 simp only [h1, if_true, Int.ediv_one]
 split <;> omega
theorem q4J {v : Value} {o : Option Int} {Q : Option Int -> Shared -> Prop} (p : IsPart v o) (h : Q o s) : wpAny (model prog w) A (Builtin.Slice.slicePartIndex v) Q E s := by
 cases p with
 | none => exact slicePart_none h
 | int i t => exact slicePart_int h
theorem q3F {sl : Addr} {vl vu : Value} {lo hi : Option Int} {n : Nat} {Q : Int × Int × Nat -> Shared -> Prop} (hs : s.heap.IsSliceOf sl vl vu .none) (pl : IsPart vl lo) (pu : IsPart vu hi)
  (h : Q (((sIx n 0 lo : Nat) : Int), 1, sIx n n hi - sIx n 0 lo) s) : wpAny (model prog w) A (Builtin.Slice.sliceApplied (.ref sl) (pure (n : Int))) Q E s := by
 obtain ⟨os, hos, hcs, hds⟩ := id hs
 unfold Builtin.Slice.sliceApplied Builtin.Slice.sliceFields
 refine wpAny_bind (wpAny_bind (wpAny_field hos hds (x := vl) rfl (wpAny_bind (wpAny_field hos hds (x := vu) rfl (wpAny_bind (wpAny_field hos hds (x := .none) rfl (wpAny_pure ?_)))))))
 refine wpAny_bind (slicePart_none ?_)
 show wpAny _ _ (if ((1 : Int) == 0) = true then _ else _) _ _ s
 rw [if_neg (by decide)]
 refine wpAny_bind (q4J pl (wpAny_bind (q4J pu (wpAny_bind (wpAny_pure ?_)))))
 show wpAny _ _ (match Builtin.Slice.sliceAdjust lo hi 1 (n : Int) with | (lo, hi) => pure (lo, (1 : Int), Builtin.Slice.slicePlaces lo hi 1)) _ _ s
 rw [q6P lo hi n]
 show wpAny _ _ (pure (((sIx n 0 lo : Nat) : Int), (1 : Int), Builtin.Slice.slicePlaces ((sIx n 0 lo : Nat) : Int) ((sIx n n hi : Nat) : Int) 1)) _ _ s
 rw [q6U]
 exact wpAny_pure h
theorem q9r (xs : Array Value) (i k : Nat) : ((List.range k).filterMap λ (m : Nat) => xs[((i : Int) + (m : Int) * 1).toNat]?).toArray = ((xs.toList.drop i).take k).toArray := by
 have e : (λ (m : Nat) => xs[((i : Int) + (m : Int) * 1).toNat]?) = λ m => xs[i + m]? := by
  funext m
  have : ((i : Int) + (m : Int) * 1).toNat = i + m := by omega
  rw [this]
 rw [e]
 have := pick_run xs i k
 rw [List.filterMap_map] at this
 have e2 : ((λ x => xs[x]?) ∘ λ x => i + x) = λ m => xs[i + m]? := rfl
 rw [e2] at this
 rw [this]
theorem getItem_tuple_cut {t sl : Addr} {items : Array Value} {vl vu : Value} {lo hi : Option Int} {Q : Value -> Shared -> Prop} (ht : IsTup s.heap t items) (hs : s.heap.IsSliceOf sl vl vu .none) (pl : IsPart vl lo) (pu : IsPart vu hi)
  (hw : ¬ (sIx items.size 0 lo = 0 /\ sIx items.size items.size hi = items.size))
  (h : Q (.ref s.heap.objs.size) { s with heap := s.heap.push { cls := .type "tuple", data := .seq ((items.toList.drop (sIx items.size 0 lo)).take (sIx items.size items.size hi - sIx items.size 0 lo)).toArray } })
  (hsz : items.size <= sizeLine) : wpAny (model prog w) A (getItem (.ref t) (.ref sl)) Q E s := by
 have htake : sizeOk (.seq ((items.toList.drop (sIx items.size 0 lo)).take (sIx items.size items.size hi - sIx items.size 0 lo)).toArray) := by
  show ((items.toList.drop (sIx items.size 0 lo)).take (sIx items.size items.size hi - sIx items.size 0 lo)).toArray.size <= sizeLine
  rw [List.size_toArray, List.length_take, List.length_drop, Array.length_toList]
  omega
 have hj : sIx items.size items.size hi <= items.size := z2G _ _ (Nat.le_refl _) hi
 obtain ⟨os, hos, hcs, hds⟩ := id hs
 have hTs : s.TypeIs (.ref sl) "slice" := ⟨os, hos, hcs⟩
 unfold getItem
 try with_reducible refine wpAny_holding ?_
 first | refine wpAny_bind (wpAny_pure ?_) | skip
 refine wpAny_bind (wpAny_sequenceKey ht.typeIs (by decide) ?_)
 refine wpAny_bind (wpAny_callSpecial?_slot (name := Str.ofString "__getitem__") ht.typeIs PyProof.Rows.slot_tuple_getitem
  (wpAny_call_entry PyProof.Rows.slot_tuple_getitem ht.typeIs entry_tuple_getitem ?_ (args_tuple_getitem _ _)))
 show wpAny _ _ (Builtin.Tuple.tupleItemsOf (.ref t) >>= _) _ _ s
 refine wpAny_bind (tupleItemsOf_ ht ?_)
 refine wpAny_bind (wpAny_typeOf hTs ?_)
 rw [if_pos (by decide)]
 refine wpAny_bind (q3F hs pl pu ?_)
 have hno : ¬ ((((sIx items.size 0 lo : Nat) : Int) == 0 && (1 : Int) == 1 && (sIx items.size items.size hi - sIx items.size 0 lo) == items.size) = true) := by
  intro q
  rw [Bool.and_eq_true, Bool.and_eq_true] at q
  have q1 : ((sIx items.size 0 lo : Nat) : Int) = 0 := eq_of_beq q.1.1
  have q2 : sIx items.size items.size hi - sIx items.size 0 lo = items.size := eq_of_beq q.2
  exact hw ⟨by omega, by omega⟩
 show wpAny _ _ (if (((sIx items.size 0 lo : Nat) : Int) == 0 && (1 : Int) == 1 && (sIx items.size items.size hi - sIx items.size 0 lo) == items.size) = true then _ else _) _ _ s
 rw [if_neg hno, q9r]
 first
  | exact wpAny_bind (m := Builtin.Tuple.tupleExact _) (wpAny_newObj_type (wpAny_pure ⟨_, rfl, wpAny_pure h⟩) htake)
  | exact wpAny_bind (m := Builtin.Tuple.tupleExact _) (wpAny_newObj_type (wpAny_bind (wpAny_pure (wpAny_pure ⟨_, rfl, wpAny_pure h⟩))) htake)
  | exact wpAny_bind (wpAny_bind (m := Builtin.Tuple.tupleExact _) (wpAny_newObj_type (wpAny_pure (wpAny_pure ⟨_, rfl, wpAny_pure h⟩)) htake))
  | exact wpAny_bind (wpAny_bind (m := Builtin.Tuple.tupleExact _) (wpAny_newObj_type (wpAny_pure ⟨_, rfl, wpAny_pure h⟩) htake))
end
end HT
namespace L2
open PySem PySem.Spec PyProof.Rows
noncomputable abbrev TO := St -> Hp -> (Option Int -> Hp -> Prop) -> Prop
noncomputable def PO (X : Cx) (e : Option Expr) (t : TO) : Prop :=
 ∀ (pins : List (Addr × Obj)) (s : Shared) (σ : St) (H : Hp) (Q : Option Int -> Hp -> Prop), Inv X pins σ H s -> t σ H Q ->
  wpAny (model X.prog X.w) X.A (evalPart e X.env) (λ u s' => ∃ o H', Inv X pins σ H' s' /\ IsPart u o /\ Q o H') X.xe s
noncomputable def z1S : TO := λ _ H Q => Q none H
noncomputable def z4M (t : TE) : TO := λ σ H Q => t σ H λ x H1 => ∃ i, x = .int i /\ Q (some i) H1
section
variable {X : Cx} {e : Expr} {te : TE} {lo hi : Option Expr} {tl th : TO} {pos p2 : Pos}
theorem q6j : PO X none z1S := by
 intro pins s σ H Q I h
 rw [evalPart_none]
 exact wpAny_pure ⟨none, H, I, .none, h⟩
theorem q8M (h : PE X e te) : PO X (some e) (z4M te) := by
 intro pins s σ H Q I hw
 rw [evalPart_some]
 refine thn (h pins s σ H _ I hw) λ u s1 ⟨x, H1, I1, r1, q1⟩ => ?_
 obtain ⟨i, rfl, q⟩ := q1
 obtain ⟨t, rfl⟩ := r1
 exact ⟨some i, H1, I1, .int i t, q⟩
noncomputable def SlR (X : Cx) (r : V -> Option Int -> Option Int -> Hp -> VK -> Prop) : Prop :=
 ∀ (pins : List (Addr × Obj)) (s : Shared) (σ : St) (H : Hp) (x : V) (v vl vu : Value) (lo hi : Option Int) (sl : Addr) (Q : VK), Inv X pins σ H s -> RelV x v -> s.heap.IsSliceOf sl vl vu .none -> IsPart vl lo -> IsPart vu hi -> r x lo hi H Q ->
  ∃ T id, typeLookup (.type T) "__getitem__" = pure (some (.builtin id)) /\ s.TypeIs v T /\ wpAny (model X.prog X.w) X.A (getItem v (.ref sl)) (EP X pins σ Q) X.xe s
theorem SlR.or {r r' : V -> Option Int -> Option Int -> Hp -> VK -> Prop} (h : SlR X r) (h' : SlR X r') : SlR X (λ x lo hi H Q => r x lo hi H Q \/ r' x lo hi H Q) := by
 intro pins s σ H x v vl vu lo hi sl Q I rx hs pl pu q
 rcases q with q | q
 ·exact h pins s σ H x v vl vu lo hi sl Q I rx hs pl pu q
 ·exact h' pins s σ H x v vl vu lo hi sl Q I rx hs pl pu q
noncomputable def tSl (r : V -> Option Int -> Option Int -> Hp -> VK -> Prop) (te : TE) (tl th : TO) : TE := λ σ H Q => te σ H λ x H1 => tl σ H1 λ l H2 => th σ H2 λ u H3 => r x l u H3 Q
theorem q4P {r : V -> Option Int -> Option Int -> Hp -> VK -> Prop} (hr : SlR X r) (he : PE X e te) (hl : PO X lo tl) (hu : PO X hi th) : PE X (.Subscript e (.Slice lo hi none p2) pos) (tSl r te tl th) := by
 intro pins s σ H Q I h
 refine Subscript_ (thn (he pins s σ H _ I h) λ v s1 ⟨x, H1, I1, r1, q1⟩ => ?_)
 refine wpAny_Slice (thn (hl pins s1 σ H1 _ I1 q1) λ vl s2 ⟨l, H2, I2, pl, q2⟩ => thn (hu pins s2 σ H2 _ I2 q2) λ vu s3 ⟨u, H3, I3, pu, q3⟩ => ?_)
 rw [evalPart_none]
 refine wpAny_pure ?_
 have I4 : Inv X pins σ H3 { s3 with heap := s3.heap.push { cls := .type "slice", data := .fields #[vl, vu, .none] } } := I3.kept (t' := s3.toks) λ b ob q => Heap.get?_push_of_some _ q
 obtain ⟨T, id, hT, ht, hg⟩ := hr pins { s3 with heap := s3.heap.push { cls := .type "slice", data := .fields #[vl, vu, .none] } } σ H3 x v vl vu l u s3.heap.objs.size Q I4 r1 (Heap.IsSliceOf.new ..) pl pu q3
 show wpAny (model X.prog X.w) X.A (subscriptTail e (.Slice lo hi none p2) v (.ref s3.heap.objs.size)) (EP X pins σ Q) X.xe { s3 with heap := s3.heap.push { cls := .type "slice", data := .fields #[vl, vu, .none] } }
 exact tail_any (ops := [.ref s3.heap.objs.size, v]) ht hT hg (by with_unfolding_all rfl)
noncomputable def cutV (xs : List V) (lo hi : Option Int) : List V := (xs.drop (HT.sIx xs.length 0 lo)).take (HT.sIx xs.length xs.length hi - HT.sIx xs.length 0 lo)
theorem q3U (xs : List V) (lo hi : Option Int) : (cutV xs lo hi).length <= xs.length := by
 unfold cutV
 rw [List.length_take, List.length_drop]
 omega
noncomputable def rSlT (K : PySem.W.Frag) : V -> Option Int -> Option Int -> Hp -> VK -> Prop := λ x lo hi H Q => ∃ a xs, x = .ref a /\ SqT K H a xs /\
 ¬ (HT.sIx xs.length 0 lo = 0 /\ HT.sIx xs.length xs.length hi = xs.length) /\ ∀ p, H p = none -> Q (.ref p) (upd H p (.tup (cutV xs lo hi)))
theorem z3F : SlR X (rSlT X.K) := by
 intro pins s σ H x v vl vu lo hi sl Q I rx hs pl pu h
 obtain ⟨a, xs, rfl, hx, hw, q⟩ := h
 cases rx
 obtain ⟨its, r, ht, hz⟩ := I.tuple hx
 have hlen : its.toArray.size = xs.length := by rw [List.size_toArray]; exact r.length.symm
 refine ⟨"tuple", _, PyProof.Rows.slot_tuple_getitem.lookup, ht.typeIs, ?_⟩
 refine HT.getItem_tuple_cut ht hs pl pu (by rw [hlen]; exact hw) ?_ (by rw [hlen]; exact hz)
 rw [hlen]
 refine ⟨.ref s.heap.objs.size, _, I.laid (t' := s.toks) (o := .tup (cutV xs lo hi)) (λ b ob q => Heap.get?_push_of_some _ q) (Nat.le_refl _) ?_, rfl, q _ (I.hok.fresh (Nat.le_refl _))⟩
 exact ⟨Nat.le_trans (q3U xs lo hi) hz, _, (r.drop (HT.sIx xs.length 0 lo)).take (HT.sIx xs.length xs.length hi - HT.sIx xs.length 0 lo), q3m.new _ _⟩
end
end L2
namespace L2
open PySem PySem.Spec PyProof.Rows
noncomputable def ixN (n : Nat) (i : Int) : Option Nat := if 0 <= i then (if i < n then some i.toNat else none) else if -(n : Int) <= i then some (i + n).toNat else none
noncomputable def atI {α : Type} (xs : List α) (i : Int) : Option α := (ixN xs.length i).bind λ j => xs[j]?
theorem q8R {n : Nat} {i : Int} {j : Nat} (h : ixN n i = some j) : seqIndex? i n = some j /\ j < n /\ -(n : Int) <= i /\ i < n := by
 unfold ixN at h
 by_cases h0 : 0 <= i
 ·rw [if_pos h0] at h
  by_cases h1 : i < n
  ·rw [if_pos h1] at h
   have e : i.toNat = j := Option.some.inj h
   exact ⟨by rw [seqIndex_of h0 h1, e], by omega, by omega, h1⟩
  ·rw [if_neg h1] at h; cases h
 ·rw [if_neg h0] at h
  by_cases h1 : -(n : Int) <= i
  ·rw [if_pos h1] at h
   have e : (i + n).toNat = j := Option.some.inj h
   exact ⟨by rw [seqIndex_neg (by omega) h1, e], by omega, h1, by omega⟩
  ·rw [if_neg h1] at h; cases h
theorem q6f {α : Type} {xs : List α} {i : Int} {v : α} (h : atI xs i = some v) : ∃ j, seqIndex? i xs.length = some j /\ xs[j]? = some v /\ j < xs.length /\ -(xs.length : Int) <= i /\ i < xs.length := by
 unfold atI at h
 cases e : ixN xs.length i with
 | none => rw [e] at h; cases h
 | some j =>
  rw [e] at h
  obtain ⟨h1, h2, h3, h4⟩ := q8R e
  exact ⟨j, h1, h, h2, h3, h4⟩
noncomputable def z0O (b : Expr) : Prop := ∀ o i, subscripted b false o i = operate [o, i] (getItem o i)
noncomputable def IxR (X : Cx) (r : R2) : Prop :=
 ∀ (value slice : Expr) (pins : List (Addr × Obj)) (s : Shared) (σ : St) (H : Hp) (x y : V) (v u : Value) (Q : VK), Inv X pins σ H s -> RelV x v -> RelV y u -> r x y H Q ->
  subscripted slice false v u = operate [v, u] (getItem v u) -> wpAny (model X.prog X.w) X.A (subscriptTail value slice v u) (EP X pins σ Q) X.xe s
noncomputable def MtR (X : Cx) (id : String) (r : V -> List V -> Hp -> VK -> Prop) : Prop :=
 ∀ (pins : List (Addr × Obj)) (s : Shared) (σ : St) (H : Hp) (x : V) (xs : List V) (v : Value) (us : List Value) (Q : VK), Inv X pins σ H s -> RelV x v -> Vals xs us -> r x xs H Q ->
  wpAny (model X.prog X.w) X.A (call (.builtin id) (v :: us)) (EP X pins σ Q) X.xe s
section
variable {X : Cx} {a b : Expr} {ta tb : TE} {pos : Pos}
theorem IxR.or {r r' : R2} (h : IxR X r) (h' : IxR X r') : IxR X (λ x y H Q => r x y H Q \/ r' x y H Q) := by
 intro value slice pins s σ H x y v u Q I rx ry q hs
 rcases q with q | q
 ·exact h value slice pins s σ H x y v u Q I rx ry q hs
 ·exact h' value slice pins s σ H x y v u Q I rx ry q hs
theorem z4L {r : R2} (hr : IxR X r) (ha : PE X a ta) (hb : PE X b tb) (hs : z0O b) : PE X (.Subscript a b pos) (tOp r ta tb) := by
 intro pins s σ H Q I h
 exact Subscript_ (binT ha hb I h λ v u s2 x y H2 I2 rx ry q => hr a b pins s2 σ H2 x y v u Q I2 rx ry q (hs _ _))
noncomputable def rIxL (K : PySem.W.Frag) : R2 := λ x y H Q => ∃ p xs i v, x = .ref p /\ y = .int i /\ SqL K H p xs /\ atI xs i = some v /\ Q v H
noncomputable def rIxT (K : PySem.W.Frag) : R2 := λ x y H Q => ∃ p xs i v, x = .ref p /\ y = .int i /\ SqT K H p xs /\ atI xs i = some v /\ Q v H
noncomputable def rIxS : R2 := λ x y H Q => ∃ z i c, x = .str z /\ y = .int i /\ z.length <= sizeLine /\ atI z.cps.toList i = some c /\ Q (.str ⟨#[c]⟩) H
theorem z0X : IxR X (rIxL X.K) := by
 intro value slice pins s σ H x y v u Q I rx ry h hs
 obtain ⟨p, xs, i, z, rfl, rfl, hq, he, q⟩ := h
 cases rx
 obtain ⟨t, rfl⟩ := ry
 obtain ⟨its, r, pl, hz⟩ := I.list hq
 obtain ⟨j, h1, h2, h3, h4, h5⟩ := q6f he
 obtain ⟨w, ew, rw'⟩ := r.get h2
 have hl := r.length
 have hn := q4l
 have fin : EP X pins σ Q w s := ⟨z, H, I, rw', q⟩
 by_cases h0 : 0 <= i
 ·have hj : i.toNat = j := by
   rw [seqIndex_of h0 h5] at h1
   exact Option.some.inj h1
  exact item_listR pl.isList h0 (by omega) (by rw [hj]; simpa using ew) fin hs
 ·have hj : (i + (its.toArray.size : Int)).toNat = j := by
   rw [seqIndex_neg (by omega) h4] at h1
   rw [List.size_toArray, ← hl]
   exact Option.some.inj h1
  exact subscriptTail_builtinR (x := w) pl.isList.typeIs slot_list_getitem.lookup
   (wpAny_getItem_list_neg (Q := λ r s' => r = w /\ EP X pins σ Q r s') pl.isList (by omega) (by rw [List.size_toArray] <;> omega) (by omega) (by rw [hj]; simpa using ew) ⟨rfl, fin⟩) hs
theorem z3e : IxR X (rIxT X.K) := by
 intro value slice pins s σ H x y v u Q I rx ry h hs
 obtain ⟨p, xs, i, z, rfl, rfl, hq, he, q⟩ := h
 cases rx
 obtain ⟨t, rfl⟩ := ry
 obtain ⟨its, r, pl, hz⟩ := I.tuple hq
 obtain ⟨j, h1, h2, h3, h4, h5⟩ := q6f he
 obtain ⟨w, ew, rw'⟩ := r.get h2
 have hl := r.length
 have hn := q4l
 have fin : EP X pins σ Q w s := ⟨z, H, I, rw', q⟩
 exact subscriptTail_builtinR (x := w) pl.typeIs slot_tuple_getitem.lookup
  (getItem_tuple (j := j) (Q := λ r s' => r = w /\ EP X pins σ Q r s') pl (by omega) (by omega) (by rw [List.size_toArray, ← hl]; exact h1) (by simpa using ew) ⟨rfl, fin⟩) hs
theorem z2r : IxR X rIxS := by
 intro value slice pins s σ H x y v u Q I rx ry h hs
 obtain ⟨z, i, c, rfl, rfl, hz, he, q⟩ := h
 obtain ⟨t, rfl⟩ := rx
 obtain ⟨t', rfl⟩ := ry
 obtain ⟨j, h1, h2, h3, h4, h5⟩ := q6f he
 have hl : z.cps.toList.length = z.length := by simp [Str.length]
 rw [hl] at h1 h4 h5
 have hn := q4l
 exact tail_any (typeIs_str s z t) slot_str_getitem.lookup (getItem_str (c := c) (by
  have e1 : decide (i < -(2 ^ 63 : Int)) = false := decide_eq_false (by omega)
  have e2 : decide (i ≥ 2 ^ 63) = false := decide_eq_false (by omega)
  rw [e1, e2, Bool.or_false]) (by rw [h1]; simpa using h2) ⟨.str ⟨#[c]⟩, H, I.tok _, ⟨_, rfl⟩, q⟩) hs
noncomputable def rIx (K : PySem.W.Frag) : R2 := λ x y H Q => rIxL K x y H Q \/ rIxT K x y H Q \/ rIxS x y H Q
theorem z3o : IxR X (rIx X.K) := z0X.or (z3e.or z2r)
theorem q7h (its : List Value) (n j : Nat) (u : Value) : Obj.mapSeq (·.setIfInBounds j u) { cls := .type "list", data := .seq its.toArray n } = { cls := .type "list", data := .seq (its.set j u).toArray n } := by
 simp [Obj.mapSeq]
theorem Inv.lst {pins : List (Addr × Obj)} {σ : St} {H : Hp} {s : Shared} {p : Addr} {xs : List V} (I : Inv X pins σ H s) (h : H p = some (.lst xs)) :
  ∃ (its : List Value) (n : Nat), Vals xs its /\ s.heap.get? p = some { cls := .type "list", data := .seq its.toArray n } /\ xs.length <= sizeLine := by
 obtain ⟨z, its, n, r, e⟩ := I.hok p _ h
 exact ⟨its, n, r, e, z⟩
theorem Inv.lstUpd {pins : List (Addr × Obj)} {σ : St} {H : Hp} {s : Shared} {p : Addr} {xs ys : List V} {its its' : List Value} {n n' : Nat} {f : Obj -> Obj} (I : Inv X pins σ H s) (h : H p = some (.lst xs))
  (ho : s.heap.get? p = some { cls := .type "list", data := .seq its.toArray n }) (hf : f { cls := .type "list", data := .seq its.toArray n } = { cls := .type "list", data := .seq its'.toArray n' }) (r : Vals ys its') (hz : ys.length <= sizeLine) (t : Nat) :
  Inv X pins σ (upd H p (.lst ys)) { s with heap := s.heap.update p f, toks := t } := by
 have e : (s.heap.update p f).get? p = some { cls := .type "list", data := .seq its'.toArray n' } := by
  rw [Heap.get?_update_self f ho (by rw [hf] <;> rfl), hf]
 refine I.write (x := p) (e := p) (by rw [h]; trivial) (.inl rfl) (λ b u hb q => (Heap.get?_update_other _ _ (Ne.symm hb)).trans q) ⟨_, e⟩ ?_
 exact ⟨hz, its', n', r, e⟩
noncomputable def z4e : V -> V -> V -> Hp -> (Hp -> Prop) -> Prop := λ o i v H Q => ∃ p xs k j, o = .ref p /\ i = .int k /\ H p = some (.lst xs) /\ ixN xs.length k = some j /\ Q (upd H p (.lst (xs.set j v)))
theorem q9s : PSet X z4e := by
 intro pins s σ H o i v ov iv u Q I ro ri rv h
 obtain ⟨p, xs, k, j, rfl, rfl, hp, hj, q⟩ := h
 cases ro
 obtain ⟨t, rfl⟩ := ri
 obtain ⟨its, n, r, ho, hz⟩ := I.lst hp
 obtain ⟨h1, h2, h3, h4⟩ := q8R hj
 have hl := r.length
 have hn := q4l
 have I' : Inv X pins σ (upd H p (.lst (xs.set j v))) { s with heap := s.heap.update p (Obj.mapSeq (·.setIfInBounds j u)) } :=
  I.lstUpd hp ho (q7h its n j u) (r.set rv j) (by rw [List.length_set]; exact hz) s.toks
 by_cases h0 : 0 <= k
 ·have hk : k.toNat = j := by
   rw [seqIndex_of h0 h4] at h1
   exact Option.some.inj h1
  exact PySem.W.ki_setAt ho h0 (by omega) (by rw [List.size_toArray, ← hl]; exact h4) (by rw [hk]; exact ⟨_, I', q⟩)
 ·have hk : (k + (its.toArray.size : Int)).toNat = j := by
   rw [seqIndex_neg (by omega) h3] at h1
   rw [List.size_toArray, ← hl]
   exact Option.some.inj h1
  exact PySem.W.ki_setBack ho (by omega) (by rw [List.size_toArray, ← hl]; exact h3) (by omega) (by rw [hk]; exact ⟨_, I', q⟩)
theorem q5s (lo hi : Option Int) (n : Nat) : (sliceBounds lo hi none n).1 = ((HT.sIx n 0 lo : Nat) : Int) /\ (sliceBounds lo hi none n).2.1 = ((HT.sIx n n hi : Nat) : Int) /\ (sliceBounds lo hi none n).2.2 = 1 := by
 refine ⟨?_, ?_, rfl⟩
 ·cases lo with
  | none => simp [sliceBounds, HT.sIx]
  | some i =>
   simp only [sliceBounds, HT.sIx, Option.getD_none, show (1 : Int) > 0 by decide, if_true]
   by_cases h : i < 0
   ·simp only [h, if_true] <;> omega
   ·simp only [h, if_false] <;> omega
 ·cases hi with
  | none => simp [sliceBounds, HT.sIx]
  | some i =>
   simp only [sliceBounds, HT.sIx, Option.getD_none, show (1 : Int) > 0 by decide, if_true]
   by_cases h : i < 0
   ·simp only [h, if_true] <;> omega
   ·simp only [h, if_false] <;> omega
theorem q5k (its : List Value) (lo hi : Option Int) : slicePick its.toArray lo hi none = ((its.drop (HT.sIx its.length 0 lo)).take (HT.sIx its.length its.length hi - HT.sIx its.length 0 lo)).toArray := by
 obtain ⟨h1, h2, h3⟩ := q5s lo hi its.toArray.size
 unfold slicePick
 rw [h1, h2, h3]
 simp only [sliceRange_one, pick_run, List.size_toArray] <;> rfl
noncomputable def rSlL (K : PySem.W.Frag) : V -> Option Int -> Option Int -> Hp -> VK -> Prop := λ x lo hi H Q => ∃ a xs, x = .ref a /\ SqL K H a xs /\ ∀ p, H p = none -> Q (.ref p) (upd H p (.lst (cutV xs lo hi)))
theorem z0U : SlR X (rSlL X.K) := by
 intro pins s σ H x v vl vu lo hi sl Q I rx hs pl pu h
 obtain ⟨a, xs, rfl, hx, q⟩ := h
 cases rx
 obtain ⟨its, r, ht, hz⟩ := I.list hx
 have hlen := r.length
 refine ⟨"list", _, slot_list_getitem.lookup, ht.isList.typeIs, ?_⟩
 refine wpAny_getItem_list_slice ht.isList hs pl pu .none (by simp) ?_ (by rw [List.size_toArray] <;> omega)
 rw [q5k, ← hlen]
 refine ⟨.ref s.heap.objs.size, _, I.laid (t' := s.toks) (o := .lst (cutV xs lo hi)) (λ b ob q => Heap.get?_push_of_some _ q) (Nat.le_refl _) ?_, rfl, q _ (I.hok.fresh (Nat.le_refl _))⟩
 exact ⟨Nat.le_trans (q3U xs lo hi) hz, _, 0, (r.drop (HT.sIx xs.length 0 lo)).take (HT.sIx xs.length xs.length hi - HT.sIx xs.length 0 lo), Heap.get?_push_size _ rfl⟩
theorem q2F : q1L X (.builtin "len") (λ xs H Q => ∃ p ys, xs = [.ref p] /\ (SqL X.K H p ys \/ SqT X.K H p ys) /\ Q (.int ys.length) H) := by
 intro pins s σ H xs us Q I r h
 obtain ⟨p, ys, rfl, hq, q⟩ := h
 obtain ⟨u, rfl, rx⟩ := q5M r
 cases rx
 have hn := q4l
 rcases hq with hq | hq
 ·obtain ⟨its, r', pl, hz⟩ := I.list hq
  have hlen := r'.length
  exact Calls.call_len_list pl.isList (by simp only [List.size_toArray] <;> omega) ⟨.int ys.length, H, I.tok _, ⟨s.toks + 1, by rw [List.size_toArray, hlen]⟩, q⟩
 ·obtain ⟨its, r', pl, hz⟩ := I.tuple hq
  have hlen := r'.length
  exact len_tuple pl (by simp only [List.size_toArray] <;> omega) ⟨.int ys.length, H, I.tok _, ⟨s.toks + 1, by rw [List.size_toArray, hlen]⟩, q⟩
theorem q5H : q1L X (.builtin "len") (λ xs H Q => ∃ z, xs = [.str z] /\ z.length <= sizeLine /\ Q (.int z.length) H) := by
 intro pins s σ H xs us Q I r h
 obtain ⟨z, rfl, hz, q⟩ := h
 obtain ⟨u, rfl, t, rfl⟩ := q5M r
 have hn := q4l
 exact len_str (by omega) ⟨.int z.length, H, I.tok _, ⟨_, rfl⟩, q⟩
theorem q2z : q1L X (.type "list") (λ xs H Q => ∃ p ys, xs = [.ref p] /\ (SqL X.K H p ys \/ SqT X.K H p ys) /\ ∀ l, H l = none -> Q (.ref l) (upd H l (.lst ys))) := by
 intro pins s σ H xs us Q I r h
 obtain ⟨p, ys, rfl, hq, q⟩ := h
 obtain ⟨u, rfl, rx⟩ := q5M r
 cases rx
 have fin : ∀ (its : List Value), Vals ys its -> ys.length <= sizeLine -> ∀ (h' : Heap) (c' : Nat), (∀ b o', s.heap.get? b = some o' -> h'.get? b = some o') ->
   h'.get? s.heap.objs.size = some { cls := .type "list", dict := none, data := .seq its.toArray c', slots := #[] } -> EP X pins σ Q (.ref s.heap.objs.size) { s with heap := h' } := λ its r' hz h' c' kp e =>
  ⟨.ref s.heap.objs.size, _, I.laid (t' := s.toks) kp (Nat.le_refl _) (show q1K X.prog X.w _ h' _ (.lst ys) from ⟨hz, its, c', r', e⟩), rfl, q _ (I.hok.fresh (Nat.le_refl _))⟩
 rcases hq with hq | hq
 ·obtain ⟨its, r', pl, hz⟩ := I.list hq
  have hlen := r'.length
  obtain ⟨o, ho, hc, n, hd⟩ := pl.isList
  exact call_list_seq p (.inl rfl) ho hc hd (λ h' c' kp e => fin its r' hz h' c' kp e) (by simp only [List.size_toArray] <;> omega)
 ·obtain ⟨its, r', pl, hz⟩ := I.tuple hq
  have hlen := r'.length
  obtain ⟨o, ho, hc, n, hd⟩ := pl
  exact call_list_seq p (.inr rfl) ho hc hd (λ h' c' kp e => fin its r' hz h' c' kp e) (by simp only [List.size_toArray] <;> omega)
theorem q3j : q1L X (.type "tuple") (λ xs H Q => ∃ p ys, xs = [.ref p] /\ ((SqL X.K H p ys /\ ∀ l, H l = none -> Q (.ref l) (upd H l (.tup ys))) \/ (SqT X.K H p ys /\ Q (.ref p) H))) := by
 intro pins s σ H xs us Q I r h
 obtain ⟨p, ys, rfl, h⟩ := h
 obtain ⟨u, rfl, rx⟩ := q5M r
 cases rx
 rcases h with ⟨hq, q⟩ | ⟨hq, q⟩
 ·obtain ⟨its, r', pl, hz⟩ := I.list hq
  have hlen := r'.length
  refine call_tuple_list pl.isList (λ h' kp => ?_) (by simp only [List.size_toArray] <;> omega)
  have I1 : Inv X pins σ H { s with heap := h' } := I.kept (t' := s.toks) kp
  have I2 : Inv X pins σ (upd H h'.objs.size (.tup ys)) { s with heap := h'.push { cls := .type "tuple", data := .seq its.toArray } } :=
   I1.laid (t' := s.toks) (λ b o e => Heap.get?_push_of_some _ e) (Nat.le_refl _) (show q1K X.prog X.w _ _ _ (.tup ys) from ⟨hz, its, r', q3m.new _ _⟩)
  exact ⟨.ref h'.objs.size, _, I2, rfl, q _ (I1.hok.fresh (Nat.le_refl _))⟩
 ·obtain ⟨its, r', pl, hz⟩ := I.tuple hq
  exact call_tuple_same pl ⟨.ref p, H, I, rfl, q⟩
noncomputable def tyV (K : PySem.W.Frag) (T : String) (x : V) (H : Hp) : Prop := match x with
 | .str _ => T = "str"
 | .int _ => T = "int"
 | .ref p => (T = "list" /\ ∃ xs, SqL K H p xs) \/ (T = "tuple" /\ ∃ o, K.lookup p = some o /\ o.cls = .type "tuple" /\ o.dict = none) \/
   (T = "dict" /\ ((∃ kvs, H p = some (.dK kvs)) \/ ∃ kvs, H p = some (.dT kvs))) \/ (T = "set" /\ ∃ S n, H p = some (.set S n))
 | _ => False
theorem z2U {pins : List (Addr × Obj)} {σ : St} {H : Hp} {s : Shared} {T : String} {x : V} {v : Value} (I : Inv X pins σ H s) (r : RelV x v) (ty : tyV X.K T x H) :
  s.TypeIs v T /\ ∀ a, v = .ref a -> ∃ ob, s.heap.get? a = some ob /\ ob.dict = none := by
 cases x with
 | str z =>
  obtain ⟨t, rfl⟩ := r
  cases (show T = "str" from ty)
  exact ⟨typeIs_str s z t, λ _ e => nomatch e⟩
 | int i =>
  obtain ⟨t, rfl⟩ := r
  cases (show T = "int" from ty)
  exact ⟨typeIs_int s i t, λ _ e => nomatch e⟩
 | ref p =>
  cases r
  rcases ty with ⟨rfl, xs, hq⟩ | ⟨rfl, o, hk, hc, hd⟩ | ⟨rfl, hk⟩ | ⟨rfl, S, n, hk⟩
  ·obtain ⟨its, _, pl, _⟩ := I.list hq
   refine ⟨pl.isList.typeIs, λ a e => ?_⟩
   cases e
   obtain ⟨o, n, e, c, hd, _⟩ := pl
   exact ⟨o, e, hd⟩
  ·refine ⟨⟨o, I.kIn p o hk, hc⟩, λ a e => ?_⟩
   cases e
   exact ⟨o, I.kIn _ o hk, hd⟩
  ·have z : ∃ o, s.heap.get? p = some o /\ o.ExactDict := by
    rcases hk with ⟨kvs, hk⟩ | ⟨kvs, hk⟩
    ·obtain ⟨_, _, _, _, o, _, _, e, ex, _⟩ := I.hok p _ hk
     exact ⟨o, e, ex⟩
    ·obtain ⟨_, _, _, _, o, _, _, e, ex, _⟩ := I.hok p _ hk
     exact ⟨o, e, ex⟩
   obtain ⟨o, e, ex⟩ := z
   refine ⟨⟨o, e, ex.1⟩, λ a e2 => ?_⟩
   cases e2
   exact ⟨o, e, ex.2.1⟩
  ·obtain ⟨o, _, _, _, e, ex, _⟩ := I.hok p _ hk
   refine ⟨⟨o, e, ex.1⟩, λ a e2 => ?_⟩
   cases e2
   exact ⟨o, e, ex.2.1⟩
 | _ => exact False.elim ty
noncomputable def tBM (K : PySem.W.Frag) (T : String) (r : V -> List V -> Hp -> VK -> Prop) (to : TE) (t : TA) : TE := λ σ H Q => to σ H λ x H1 => tyV K T x H1 /\ t σ H1 λ xs H2 => r x xs H2 Q
variable {o e : Expr} {es : List Expr} {to : TE} {t : TA} {name : Str} {apos cpos : Pos} {T id : String} {r : V -> List V -> Hp -> VK -> Prop}
theorem z2l (pa : PlainAttrs T) (slot : Slot T name id) (hty : typeOf (.builtin id) = pure (.type "method_descriptor")) (hm : MtR X id r) (ho : PE X o to) (ha : PA X (e :: es) t)
  (hbase : attributeBase o name X.env (eval o X.env) = eval o X.env := by rfl)
  (hfew : ((backTo cpos (starEach (e :: es) X.env)).all (λ x => !x.1) && (backToKw cpos (keywordEach [] X.env)).all (λ x => x.1.isSome)
   && decide ((e :: es).length + ([] : List Keyword).length + (if ([] : List Keyword).isEmpty then 0 else 1) < 30)) = true := by rfl)
  (hline : (apos.endLine == cpos.line) = true := by rfl) (hs : starEach (e :: es) X.env = (false, eval e X.env) :: starEach es X.env := by rfl) (hplain : (backTo cpos (starEach es X.env)).any (·.1) = false := by rfl) :
  PE X (.Call (.Attribute o name apos) (e :: es) [] cpos) (tBM X.K T r to t) := by
 intro pins s σ H Q I h
 refine wpAny_Call_method_late hbase hfew hline rfl (thn (ho pins s σ H _ I h) λ v s1 ⟨x, H1, I1, r1, ty, q1⟩ => ?_)
 obtain ⟨h1, h2⟩ := z2U I1 r1 ty
 refine ⟨T, id, pa, slot, hty, h1, h2, ?_⟩
 have hA := ha cpos pins s1 σ H1 _ I1 q1
 rw [hs] at hA ⊢
 refine Calls.callWith_builtin (by show (false || (backTo cpos (starEach es X.env)).any (·.1)) = false; rw [hplain] <;> rfl) (Calls.evalArgs_plain ?_)
 exact thn hA λ us s2 ⟨vs, H2, I2, r2, q2⟩ => hm pins s2 σ H2 x vs v us Q I2 r1 r2 q2
end
end L2
namespace L2
open PySem PySem.Spec PyProof.Rows
noncomputable def MtM (X : Cx) (id : String) (r : V -> List V -> Hp -> VK -> Prop) : Prop :=
 ∀ (pins : List (Addr × Obj)) (s : Shared) (σ : St) (H : Hp) (x : V) (xs : List V) (v : Value) (us : List Value) (Q : VK), Inv X pins σ H s -> RelV x v -> Vals xs us -> r x xs H Q ->
  wpAny (model X.prog X.w) X.A (call (.builtin id) (v :: us)) (EP X pins σ Q) X.xe s
theorem Vals.eraseIdx : ∀ {xs : List V} {us : List Value} (i : Nat), Vals xs us -> Vals (xs.eraseIdx i) (us.eraseIdx i)
 | _, _, _, .nil => .nil
 | _, _, 0, .cons _ t => t
 | _, _, i + 1, .cons r t => .cons r (Vals.eraseIdx i t)
theorem Vals.unc {x : V} {xs : List V} {us : List Value} (h : Vals (x :: xs) us) : ∃ u ws, us = u :: ws /\ RelV x u /\ Vals xs ws := by
 cases h with
 | cons r t => exact ⟨_, _, rfl, r, t⟩
theorem Vals.nl {us : List Value} (h : Vals [] us) : us = [] := by cases h; rfl
theorem Vals.one {x : V} {us : List Value} (h : Vals [x] us) : ∃ u, us = [u] /\ RelV x u := by
 obtain ⟨u, ws, rfl, r, t⟩ := h.unc
 cases t.nl
 exact ⟨_, rfl, r⟩
theorem Vals.two {x y : V} {us : List Value} (h : Vals [x, y] us) : ∃ u v, us = [u, v] /\ RelV x u /\ RelV y v := by
 obtain ⟨u, ws, rfl, r, t⟩ := h.unc
 obtain ⟨v, rfl, q⟩ := t.one
 exact ⟨_, _, rfl, r, q⟩
theorem Vals.rep {xs : List V} {us : List Value} (h : Vals xs us) : ∀ k : Nat, Vals (List.replicate k xs).flatten (List.replicate k us).flatten
 | 0 => .nil
 | k + 1 => by
  rw [List.replicate_succ, List.replicate_succ, List.flatten_cons, List.flatten_cons]
  exact Vals.append h (Vals.rep h k)
theorem q5y {α : Type} : ∀ (l : List α) (i : Nat), (l.eraseIdx i).length <= l.length
 | [], _ => Nat.le_refl _
 | _ :: _, 0 => Nat.le_succ _
 | _ :: r, i + 1 => Nat.succ_le_succ (q5y r i)
theorem q5p (its : List Value) : ∀ (k : Nat) (acc : List Value),
  List.foldl (λ x1 x2 => x1 ++ x2) acc.toArray (List.replicate k its.toArray) = (acc ++ (List.replicate k its).flatten).toArray
 | 0, acc => by simp
 | k + 1, acc => by
  have e : acc.toArray ++ its.toArray = (acc ++ its).toArray := by simp
  have e2 : (acc ++ its) ++ (List.replicate k its).flatten = acc ++ (List.replicate (k + 1) its).flatten := by
   rw [List.replicate_succ, List.flatten_cons, List.append_assoc]
  rw [← e2, ← q5p its k (acc ++ its), ← e, List.replicate_succ, List.foldl_cons]
section
variable {X : Cx} {pins : List (Addr × Obj)} {σ : St} {H : Hp} {s : Shared} {l b : Addr} {xs ys zs : List V}
theorem Inv.lset {its its' : List Value} {n : Nat} {f : Array Value -> Array Value} {t' : Nat} (I : Inv X pins σ H s) (hH : H l = some (.lst xs))
  (e : s.heap.get? l = some { cls := .type "list", data := .seq its.toArray n }) (hf : f its.toArray = its'.toArray) (hv : Vals ys its') (hz : ys.length <= sizeLine) :
  Inv X pins σ (upd H l (.lst ys)) { s with heap := s.heap.update l (Obj.mapSeq f), toks := t' } := by
 have q := PySem.IsL.update e f
 rw [hf] at q
 refine I.write (x := l) (e := l) (by rw [hH]; exact trivial) (.inl rfl) (λ b' u hb hu => (Heap.get?_update_other s.heap (Obj.mapSeq f) (Ne.symm hb)).trans hu) ⟨_, q⟩ ?_
 exact ⟨hz, its', _, hv, q⟩
theorem Inv.lnew {its : List Value} {t' : Nat} (I : Inv X pins σ H s) (hv : Vals ys its) (hz : ys.length <= sizeLine) :
  Inv X pins σ (upd H s.heap.objs.size (.lst ys)) { s with heap := s.heap.push { cls := .type "list", data := .seq its.toArray }, toks := t' } :=
 I.laid (λ _ _ q => Heap.get?_push_of_some _ q) (Nat.le_refl _) ⟨hz, its, 0, hv, Heap.get?_push_size _ rfl⟩
theorem Inv.fresh (I : Inv X pins σ H s) : H s.heap.objs.size = none := I.hok.fresh (Nat.le_refl _)
theorem Inv.lstM (I : Inv X pins σ H s) (hH : H l = some (.lst xs)) : xs.length <= sizeLine /\ ∃ (its : List Value) (n : Nat), Vals xs its /\ xs.length = its.length /\ s.heap.get? l = some { cls := .type "list", data := .seq its.toArray n } := by
 obtain ⟨z, its, n, r, e⟩ := I.hok l _ hH
 exact ⟨z, its, n, r, r.length, e⟩
theorem q9o {n : Nat} (h : n <= sizeLine) : Builtin.List.listTooLong n = false := by
 unfold Builtin.List.listTooLong
 exact decide_eq_false (by omega)
end
section
variable {X : Cx}
noncomputable def z0W : V -> List V -> Hp -> VK -> Prop := λ x vs H Q => ∃ l xs y, x = .ref l /\ vs = [y] /\ H l = some (.lst xs) /\ xs.length < sizeLine /\ Q .non (upd H l (.lst (xs ++ [y])))
theorem q8u : MtM X "list.append" z0W := by
 intro pins s σ H x vs v us Q I rx rv h
 obtain ⟨l, xs, y, rfl, rfl, hH, hz, q⟩ := h
 cases rx
 obtain ⟨u, rfl, ru⟩ := rv.one
 obtain ⟨z, its, n, r, hl, e⟩ := I.lstM hH
 refine call_meets F.slot_list_append ⟨_, e, rfl⟩ F.entry_list_append (F.args_list_append_2 _ _) (PySem.list_append l its.toArray n u (by rw [List.size_toArray]; omega)) ⟨e, ?_⟩
 refine ⟨.non, _, I.lset (its' := its ++ [u]) hH e (by simp) (r.append (.cons ru .nil)) ?_, rfl, q⟩
 rw [List.length_append, List.length_singleton]
 omega
noncomputable def z2J : V -> List V -> Hp -> VK -> Prop := λ x vs H Q => ∃ l xs i k y, x = .ref l /\ vs = [.int i] /\ H l = some (.lst xs) /\ -(2 ^ 63) <= i /\ i < 2 ^ 63 /\ seqIndex? i xs.length = some k /\ xs[k]? = some y /\ Q y (upd H l (.lst (xs.eraseIdx k)))
theorem q9e : MtM X "list.pop" z2J := by
 intro pins s σ H x vs v us Q I rx rv h
 obtain ⟨l, xs, i, k, y, rfl, rfl, hH, h1, h2, hk, hy, q⟩ := h
 cases rx
 obtain ⟨u, rfl, ru⟩ := rv.one
 obtain ⟨t, rfl⟩ := ru
 obtain ⟨z, its, n, r, hl, e⟩ := I.lstM hH
 obtain ⟨w, hw, rw'⟩ := r.get hy
 refine call_meets F.slot_list_pop ⟨_, e, rfl⟩ F.entry_list_pop (F.args_list_pop_2 _ _)
  (MeetsSeq.list_pop_at l its.toArray n i t k w (fitsIndex_both h1 h2) (by rw [List.size_toArray, ← hl]; exact hk) (by rw [← Array.getElem?_toList]; exact hw) (by rw [List.size_toArray]; omega)) ⟨e, ?_⟩
 refine ⟨y, _, I.lset (its' := its.eraseIdx k) hH e ?_ (Vals.eraseIdx k r) ?_, rw', q⟩
 ·show its.toArray.eraseIdxIfInBounds k = (its.eraseIdx k).toArray
  rw [List.eraseIdxIfInBounds_toArray]
 ·have := q5y xs k
  omega
noncomputable def rCat : R2 := λ x y H Q => ∃ l b xs zs, x = .ref l /\ y = .ref b /\ H l = some (.lst xs) /\ H b = some (.lst zs) /\ xs.length + zs.length <= sizeLine /\ ∀ p, H p = none -> Q (.ref p) (upd H p (.lst (xs ++ zs)))
theorem z2u : OpR X (binaryOp .Add) rCat := by
 intro pins s σ H x y v u Q I rx ry h
 obtain ⟨l, b, xs, zs, rfl, rfl, hH, hB, hz, q⟩ := h
 cases rx
 cases ry
 obtain ⟨z, its, n, r, hl, e⟩ := I.lstM hH
 obtain ⟨z2, its2, n2, r2, hl2, e2⟩ := I.lstM hB
 refine PySem.P.add_list e e2 ?_ (by rw [List.size_toArray, List.size_toArray]; omega)
 have ea : its.toArray ++ its2.toArray = (its ++ its2).toArray := by simp
 rw [ea]
 exact ⟨.ref _, _, I.lnew (t' := s.toks) (r.append r2) (by rw [List.length_append]; omega), rfl, q _ I.fresh⟩
noncomputable def rRep : R2 := λ x y H Q => ∃ l k xs, x = .ref l /\ y = .int k /\ H l = some (.lst xs) /\ -(2 ^ 63) <= k /\ k < 2 ^ 63 /\ xs.length * k.toNat <= sizeLine /\
 ∀ p, H p = none -> Q (.ref p) (upd H p (.lst (List.replicate k.toNat xs).flatten))
theorem z0S {α : Type} (xs : List α) (k : Nat) : (List.replicate k xs).flatten.length = k * xs.length := by
 induction k with
 | zero => simp
 | succ k ih => rw [List.replicate_succ, List.flatten_cons, List.length_append, ih, Nat.succ_mul, Nat.add_comm]
theorem z3M : OpR X (binaryOp .Mult) rRep := by
 intro pins s σ H x y v u Q I rx ry h
 obtain ⟨l, k, xs, rfl, rfl, hH, h1, h2, hz, q⟩ := h
 cases rx
 obtain ⟨t, rfl⟩ := ry
 obtain ⟨z, its, n, r, hl, e⟩ := I.lstM hH
 have hlen : its.toArray.size * k.toNat <= sizeLine := by rw [List.size_toArray, ← hl]; exact hz
 have hcap : ¬ its.toArray.size * k.toNat > (2 ^ 63 - 1) / 8 := by
  have : (sizeLine : Nat) <= (2 ^ 63 - 1) / 8 := by decide
  omega
 have hfit : ¬ (!Builtin.List.listFitsIndex k) = true := by
  rw [fitsIndex_both h1 h2]
  exact Bool.false_ne_true
 have hlong : ¬ Builtin.List.listTooLong (its.toArray.size * k.toNat) = true := by
  rw [q9o hlen]
  exact Bool.false_ne_true
 have hnew : List.foldl (λ x1 x2 => x1 ++ x2) #[] (List.replicate (if its.toArray.isEmpty = true then 0 else k.toNat) its.toArray) = (List.replicate k.toNat its).flatten.toArray := by
  have f0 : ∀ m : Nat, List.foldl (λ x1 x2 => x1 ++ x2) #[] (List.replicate m its.toArray) = (List.replicate m its).flatten.toArray := λ m => by
   have := q5p its m []
   rw [List.nil_append] at this
   exact this
  rw [f0]
  cases its with
  | nil => simp
  | cons a r' => rw [if_neg (by simp)]
 refine wpAny_binaryOp_repeat_ref (T := "list") (U := "int") (by decide) ⟨_, e, rfl⟩ (λ s' => typeIs_int s' k t) noFill_list_mul F.fills_int_mul F.slot_int_rmul repeat_list F.slot_int_index.lookup
  (call_meets F.slot_int_rmul (typeIs_int s k t) F.entry_int_rmul (F.args_int_rmul_2 _ _) (int___rmul___int_list k t l its.toArray n)
   ⟨e, rfl, ⟨_, e, rfl⟩, call_meets F.slot_list_mul ⟨_, e, rfl⟩ F.entry_list_mul (F.args_list_mul_2 _ _) (AutoListH.list___mul___list_int_3 l its.toArray n k t hfit hcap hlong) ⟨e, ?_⟩⟩)
 rw [hnew]
 exact ⟨.ref _, _, I.lnew (t' := s.toks) (r.rep k.toNat) (by rw [z0S, Nat.mul_comm]; exact hz), rfl, q _ I.fresh⟩
end
section
variable {prog : Program} {w : World} {A : Around} {E : Value -> Shared -> Prop} {s : Shared}
end
section
variable {X : Cx}
end
end L2
namespace Att
open PySem PySem.W PySem.Calls PyProof.Rows
theorem q4a {P : Params} {h : Heap} : ∀ (ns : List Int) (vs : List Value), WellAll P h vs (ns.map WData.int) -> IntsAre vs ns := by
 intro ns
 induction ns with
 | nil =>
  intro vs w
  rw [List.map_nil] at w
  cases w
  exact .nil
 | cons n ns ih =>
  intro vs w
  rw [List.map_cons] at w
  cases w with
  | cons a b =>
   cases a
   exact .cons _ _ (ih _ b)
theorem q7J {l : OpenLaw} {n : Nat} (hn : l.most = some n) {P : Params} {h : Heap} {args : List WData} {vals : List Value}
  (hpre : l.row.toRowW.claim.pre args = true) (hwl : WellAll P h vals args) :
  ∃ a vs ns, vals = [Value.ref a] /\ args = [WData.list (ns.map WData.int)] /\ h.get? a = some { cls := .type "list", data := .seq vs.toArray } /\ IntsAre vs ns /\ ns.length <= n := by
 have hsh : WShape.hasAll [] args [.list .int] = true := (pre_splitW hpre).1
 have hc : l.pre.holds [] { args := args } = true := (pre_splitW hpre).2
 obtain ⟨d, r, rfl, h1, h2⟩ := hasAllW_cons hsh
 obtain rfl := hasAllW_nil h2
 obtain ⟨xs, rfl, h3⟩ := hasW_list h1
 obtain ⟨ns, rfl⟩ := items_int h3
 have hlen : ns.length <= n := by
  unfold OpenLaw.pre at hc
  have h4 : (WTm.not (.lt (.lit (.int (n : Int))) (.len (.arg 0)))).holds [] { args := [.list (ns.map .int)] } = true := by
   have h4 := (holds_andW hc).1
   rw [hn] at h4
   exact h4
  have h5 := condW_of h4 (w_not (w_lt w_lit (w_len_list (w_arg rfl))))
  rw [List.length_map] at h5
  refine Nat.le_of_not_lt λ q => ?_
  have q' : (n : Int) < ((ns.length : Nat) : Int) := by omega
  first
   | (rw [decide_eq_true q'] at h5; exact absurd h5 (by decide))
   | (simp at h5; omega)
 cases hwl with
 | cons w1 w2 =>
  cases w2
  cases w1 with
  | list ho hall => exact ⟨_, _, ns, rfl, rfl, ho, q4a ns _ hall, hlen⟩
theorem q7O (l : OpenLaw) (args : List WData) : l.row.toRowW.claim.post args (.bool true) args = true :=
 postW_of (r := l.row.toRowW) (X := (true == true))
  (show WShape.has [] (.bool true) .bool = true by first | rfl | decide | simp [WShape.has, WShape.arms, WShape.armsAll])
  (show (WTm.eq .res (.lit (.bool true))).value [] { args := args, res := some (.bool true), after := args } = some (.bool (true == true)) from w_eq_bool (w_res rfl) w_lit) rfl
theorem attach_call {l : OpenLaw} {n : Nat} {q : Program} {loose : List Str} {XP : (Str -> Option Value) -> Heap -> Prop} {YP : World -> Heap -> Prop} {d : DefRec}
  (hn : l.most = some n) (hdf : d.params.defaults = [])
  (call : ∀ (w : World) (s₀ s₁ : Shared) (mg mb : Str -> Option Value) (fa : Addr) (o : Obj) (pm cd doc : Value) (a : Addr) (vs : List Value) (ns : List Int),
   Ground q loose [] XP w s₀ mg mb s₁.heap -> YP w s₁.heap ->
   s₁.heap.get? fa = some o -> o.data = .func (docDef d.name d.params d.body d.scope pm cd doc) -> s₁.heap.CodeRec cd d.name -> mg d.name = some (.ref fa) ->
   s₁.heap.get? a = some { cls := .type "list", data := .seq vs.toArray } -> IntsAre vs ns -> ns.length <= n -> s₁.gens = #[] ->
   codeAny (model l.prog w) callerA (.call (.ref fa) ⟨[.ref a], []⟩) (λ r s' => r = .ok (.ret (.bool true)) /\ OldK s₁.heap s'.heap /\ s'.os = s₁.os /\ AllBare s'.gens) s₁) :
  WalkO q loose XP YP l.row.toRowW d [] (λ f vs => PySem.call f vs) := by
 intro w s₀ s₁ mg mb G Y fa o pm cd doc dV kV ho hd hcd hD hmg hg args vals as hpre hlay hrd hwl hlo
 obtain rfl : dV = .none := Dflts.none hD hdf
 obtain rfl : kV = .none := Dflts.noKw hD
 obtain ⟨a, vs, ns, rfl, rfl, hobj, hints, hlen⟩ := q7J hn hpre hwl
 refine enter_call (codeAny_mono (call w s₀ s₁ mg mb fa o pm cd doc a vs ns G Y ho (fd_plain hd) hcd hmg hobj hints hlen hg) λ r s' hq => ?_)
 obtain ⟨rfl, h2, h3, h4⟩ := hq
 exact ⟨.inl ⟨.bool true, .bool true, [], rfl, λ _ => rfl, .bool true, q7O l _, λ _ => ⟨List.Pairwise.nil, λ _ hm => (nomatch hm)⟩⟩, h2, h3, h4⟩
section
variable {prog : Program} {w : World} {A : Around} {E : Value -> Shared -> Prop} {s : Shared} {K : Frag}
noncomputable def z5b (h : Heap) (L d : Addr) : List (Addr × Obj) := (List.range h.objs.size).filterMap λ a => if a = L \/ a = d then none else (h.get? a).map λ o => (a, o)
end
end Att
namespace L2
open PySem PySem.Spec PyProof.Rows
theorem q5D : ∀ {vs : List Value} {ns : List Int}, IntsAre vs ns -> Vals (ns.map V.int) vs
 | _, _, .nil => .nil
 | _, _, .cons n t h => .cons ⟨t, rfl⟩ (q5D h)
noncomputable def Only (H : Hp) : Prop := ∀ b, H b = none \/ ∃ o xs, H b = some (.frz o (.lst xs))
theorem q9T {P : Program} {w : World} {K : PySem.W.Frag} {mg mb : Str -> Option Value} {CX : CXT} {k : Nat} {fa a : Addr} {fd : FuncData} {x : Str} {sp : Sp} {s₁ : Shared} {vs : List Value} {ns : List Int}
  (KX : K.In s₁.heap) (hns : s₁.heap.Ns mainGlobals mg) (hb : s₁.heap.Ns builtinsNs mb) (hbb : ∀ x : Str, x ≠ "__name__" -> mb x = bootBuiltins x) (hlim : s₁.heap.NoLimit) (hg : s₁.gens = #[])
  (ha : s₁.heap.get? a = some { cls := .type "list", data := .seq vs.toArray }) (hi : IntsAre vs ns) (hl : ns.length <= sizeLine) (hr : Room k callerA)
  (F : ∀ base : Heap, K.In base -> base.Ns mainGlobals mg -> FnOk P w K mg base CX k fa fd [x] sp) (hbind : ∀ (s : Shared) (u : Value), BindsTo s fd ⟨[u], []⟩ [(x, u)])
  (hsp : ∀ H : Hp, Only H -> SqL K H a (ns.map V.int) -> sp [.ref a] H (λ v _ => v = .bl true) λ _ _ _ => False)
  (hCX : ∀ H e s', CX [] H s₁ (λ _ _ _ => False) e s' -> False) :
  codeAny (model P w) callerA (.call (.ref fa) ⟨[.ref a], []⟩) (λ r s' => r = .ok (.ret (.bool true)) /\ OldK s₁.heap s'.heap /\ s'.os = s₁.os /\ AllBare s'.gens) s₁ := by
 have rv := q5D hi
 have lenV := hi.length
 have core : ∀ H : Hp, Only H -> SqL K H a (ns.map V.int) -> HOk P w H s₁.heap -> (∀ b, H b ≠ none -> b = a) -> (H a ≠ none -> K.lookup a = none) ->
   codeAny (model P w) callerA (.call (.ref fa) ⟨[.ref a], []⟩) (λ r s' => r = .ok (.ret (.bool true)) /\ OldK s₁.heap s'.heap /\ s'.os = s₁.os /\ AllBare s'.gens) s₁ := by
  intro H hO hS hok hA hK
  have base_of : ∀ {b : Addr} {o : Obj}, s₁.heap.get? b = some o -> H b = none -> (hidT s₁.heap H).get? b = some o := λ e n => q9z e n
  have noA : ∀ {b : Addr} {o : Obj} {es : Array DictEntry} {ep : Nat}, s₁.heap.get? b = some o -> o.data = .dict es ep -> H b = none := λ {b o es ep} e d => by
   cases q : H b with
   | none => rfl
   | some u =>
    have e' : b = a := hA b (by rw [q]; simp)
    subst e'
    rw [ha] at e; cases e
    have d' : Data.seq vs.toArray _ = Data.dict es ep := d
    cases d'
  have nsK : ∀ {b : Addr} {m : Str -> Option Value}, s₁.heap.Ns b m -> (hidT s₁.heap H).Ns b m := λ {b m} ⟨o, es, ep, e, d, r⟩ => ⟨o, es, ep, base_of e (noA e d), d, r⟩
  have hKb : K.In (hidT s₁.heap H) := λ b o e => base_of (KX b o e) (by
   cases q : H b with
   | none => rfl
   | some u =>
    have e' : b = a := hA b (by rw [q]; simp)
    subst e'
    rw [hK (by rw [q]; simp)] at e; cases e)
  have hM : Mod K mg (hidT s₁.heap H) := ⟨hKb, nsK hns, ⟨mb, nsK hb, hbb⟩, let ⟨mc, h1, h2⟩ := hlim; ⟨mc, nsK h1, h2⟩⟩
  have e0 : Env0 P w K mg (hidT s₁.heap H) callerA [] s₁ H := ⟨rfl, hM, λ b o e => z1u e, Nat.le_of_eq (q8Q _ _), trivial, λ b hb => absurd (show b ∈ ([] : List Addr) from hb) (by simp), hok, .of_eq hg⟩
  refine codeAny_mono ((F _ hKb (nsK hns)).run callerA [] s₁ H ⟨[.ref a], []⟩ [.ref a] [.ref a] _ _ hr e0 (hbind s₁ (.ref a)) (.cons rfl .nil) (hsp H hO hS)) λ r s' h => ?_
  cases r with
  | error e => exact (hCX H e s' h).elim
  | ok fl =>
   cases fl with
   | next => exact False.elim h
   | brk => exact False.elim h
   | cont => exact False.elim h
   | ret u =>
    obtain ⟨v, H', os, bare, un, hok', r', q⟩ := h
    have q' : v = .bl true := q
    subst q'
    obtain rfl : u = Value.bool true := r'
    refine ⟨rfl, OldK.of_keep λ b o e => ?_, os, bare⟩
    cases q : H b with
    | none => exact un.keep b o e q (by intro z; exact absurd (show b ∈ ([] : List Addr) from z) (by simp)) (by simp)
    | some u =>
     rcases hO b with z | ⟨ob, xs, z⟩
     ·rw [q] at z; cases z
     ·have z2 := un.frzs b ob _ z
      obtain ⟨e1, _⟩ := hok b _ z
      obtain ⟨e2, _⟩ := hok' b _ z2
      rw [e] at e1; cases e1
      exact e2
 cases hk : K.lookup a with
 | some o =>
  have e := KX a o hk
  rw [ha] at e
  cases e
  refine core (λ _ => none) (λ _ => .inl rfl) (.inr ⟨_, vs.toArray, _, hk, rfl, rfl, rfl, by rw [List.size_toArray, lenV]; exact hl, by simpa using rv⟩) (λ b u z => by have z' : (none : Option HO) = some u := z; cases z') (λ b z => absurd rfl z) λ z => absurd rfl z
 | none =>
  refine core (λ b => if b = a then some (.frz { cls := .type "list", data := .seq vs.toArray } (.lst (ns.map V.int))) else none) (λ b => ?_) (.inl (.inr ⟨{ cls := .type "list", data := .seq vs.toArray }, if_pos rfl⟩)) (λ b u z => ?_) (λ b z => ?_) λ _ => hk
  ·by_cases hb : b = a
   ·exact .inr ⟨_, _, if_pos hb⟩
   ·exact .inl (if_neg hb)
  ·by_cases hb : b = a
   ·have z' := (if_pos hb).symm.trans z
    cases z'
    subst hb
    exact ⟨ha, by rw [List.length_map]; exact hl, vs, _, rv, ha⟩
   ·have z' := (if_neg hb).symm.trans z
    cases z'
  ·by_cases hb : b = a
   ·exact hb
   ·exact absurd (if_neg hb) z
end L2
namespace L2
open PySem PySem.Spec PyProof.Rows
noncomputable abbrev KOf {K : PySem.W.Frag} {h : Heap} (_ : K.In h) : PySem.W.Frag := K
theorem walk_of {l : PySem.W.OpenLaw} {n k : Nat} {q : Program} {loose : List Str} {XP : (Str -> Option Value) -> Heap -> Prop} {YP : World -> Heap -> Prop} {d : DefRec} {K : Params -> PySem.W.Frag} {CX : World -> CXT} {sp : World -> Sp} {x : Str}
  (hn : l.most = some n) (hn2 : n <= sizeLine) (hdf : d.params.defaults = []) (hr : Room k callerA)
  (hY : ∀ (w : World) (h : Heap), YP w h -> (K w.params).In h)
  (F : ∀ (w : World) (mg : Str -> Option Value) (fa : Addr) (h : Heap), (K w.params).In h -> h.Ns mainGlobals mg -> mg d.name = some (.ref fa) ->
   ∃ fd : FuncData, (∀ (s : Shared) (u : Value), BindsTo s fd ⟨[u], []⟩ [(x, u)]) /\
    ∀ base : Heap, (K w.params).In base -> base.Ns mainGlobals mg -> FnOk l.prog w (K w.params) mg base (CX w) k fa fd [x] (sp w))
  (hsp : ∀ (w : World) (H : Hp) (a : Addr) (ns : List Int), ns.length <= n -> Only H -> SqL (K w.params) H a (ns.map V.int) -> sp w [.ref a] H (λ v _ => v = .bl true) λ _ _ _ => False)
  (hCX : ∀ (w : World) (H : Hp) (s : Shared) (e : Value) (s' : Shared), CX w [] H s (λ _ _ _ => False) e s' -> False) :
  PySem.W.WalkO q loose XP YP l.row.toRowW d [] (λ f vs => PySem.call f vs) := by
 refine Att.attach_call hn hdf λ w s₀ s₁ mg mb fa o pm cd doc a vs ns G Y ho hd hcd hmg hobj hints hlen hg => ?_
 have KX := hY w _ Y
 obtain ⟨fd, hb, hF⟩ := F w mg fa _ KX G.T.g hmg
 exact q9T KX G.T.g G.T.b G.T.builtins G.T.nolimit hg hobj hints (Nat.le_trans hlen hn2) hr hF hb (λ H hO hS => hsp w H a ns hlen hO hS) λ H e s' => hCX w H s₁ e s'
end L2
namespace L2
open PySem PySem.Spec PyProof.Rows
noncomputable def q0n (s : Stmt) : Arguments := match s with
 | .FunctionDef _ a _ _ _ _ _ _ _ _ => a
 | _ => { posonlyargs := [], args := [], vararg := none, kwonlyargs := [], kw_defaults := [], kwarg := none, defaults := [] }
noncomputable def q0i (s : Stmt) : List Stmt := match s with
 | .FunctionDef _ _ b _ _ _ _ _ _ _ => b
 | _ => []
noncomputable def q0e (s : Stmt) : Scope := match s with
 | .FunctionDef _ _ _ _ _ _ sc _ _ _ => sc
 | _ => { kind := .function, names := [], isGenerator := false, isCoroutine := false }
noncomputable abbrev CX0 : CXT := λ _ _ _ _ _ _ => False
noncomputable abbrev E0 : XK := λ _ _ _ => False
structure Fun (K : PySem.W.Frag) (x qual : Str) (st : Stmt) (f : Addr) (fd : FuncData) : Prop where
 ex : ∃ (oc : Value) (od : Option Addr) (kV doc pm : Value) (an : Option Addr) (cdv ct : Value) (osl : Array (Option Value)),
  fd = PySem.W.fnOf x qual (q0n st) (q0i st) (q0e st) .none kV doc pm an cdv ct /\ K.lookup f = some ⟨oc, od, .func fd, osl⟩ /\ PySem.W.codeIn K cdv qual = true
 kp : PySem.W.keepIn K (.ref f) = true
section
variable {P : Program} {w : World} {K : PySem.W.Frag} {mg : Str -> Option Value} {base : Heap}
end
section
variable {X : Cx}
end
theorem iteF {A B : Prop} (h : B) : if false = true then A else B := by
 rw [if_neg Bool.false_ne_true]
 exact h
theorem iteT {A B : Prop} (h : A) : if true = true then A else B := by
 rw [if_pos rfl]
 exact h
noncomputable def Same (H H' : Hp) : Prop := ∀ b o, H b = some o -> H' b = some o
theorem Same.refl (H : Hp) : Same H H := λ _ _ h => h
theorem Same.trans {H H1 H2 : Hp} (a : Same H H1) (b : Same H1 H2) : Same H H2 := λ c o h => b c o (a c o h)
theorem Same.free {H H' : Hp} (e : Same H H') {l : Addr} (h : H' l = Option.none) : H l = Option.none := by
 cases q : H l with
 | none => rfl
 | some o =>
  rw [e l o q] at h
  cases h
theorem Same.seq {K : PySem.W.Frag} {H H' : Hp} {a : Addr} {xs : List V} (e : Same H H') (h : SqL K H a xs) : SqL K H' a xs := by
 rcases h with (h | ⟨o, h⟩) | h
 ·exact .inl (.inl (e _ _ h))
 ·exact .inl (.inr ⟨o, e _ _ h⟩)
 ·exact .inr h
end L2
end
section
namespace L2
open PySem PySem.Spec PyProof.Rows
noncomputable def q0o (cells : List (Str × Addr)) : List (Str × NameKind) -> List (Str × Addr) -> List (Str × Addr)
 | [], acc => acc
 | (n, k) :: r, acc => if (k == NameKind.free) = true then q0o cells r ((n, (cells.lookup n).getD 0) :: acc) else q0o cells r acc
theorem q1R {env : Env} : ∀ (names : List (Str × NameKind)) (acc : List (Str × Addr)), (∀ y ∈ names, y.2 = NameKind.free -> ∃ c, env.cells.lookup y.1 = some c) ->
  (forIn names acc (λ (x : Str × NameKind) (cs : List (Str × Addr)) => (match x with | (name, kind) => if (kind == NameKind.free) = true then (do let a ← cellOf env name; pure (ForInStep.yield ((name, a) :: cs))) else pure (ForInStep.yield cs) : Sem (ForInStep (List (Str × Addr))))) : Sem (List (Str × Addr))) = pure (q0o env.cells names acc)
 | [], acc, _ => rfl
 | (n, k) :: r, acc, h => by
  have hr : ∀ y ∈ r, y.2 = NameKind.free -> ∃ c, env.cells.lookup y.1 = some c := λ y hy => h y (List.mem_cons_of_mem _ hy)
  rw [List.forIn_cons]
  by_cases hk : (k == NameKind.free) = true
  ·obtain ⟨c, hc⟩ := h (n, k) List.mem_cons_self (beq_iff_eq.mp hk)
   have e1 : cellOf env n = pure c := by unfold cellOf; rw [hc]
   have e2 : q0o env.cells ((n, k) :: r) acc = q0o env.cells r ((n, c) :: acc) := by
    show (if (k == NameKind.free) = true then q0o env.cells r ((n, (env.cells.lookup n).getD 0) :: acc) else q0o env.cells r acc) = _
    rw [if_pos hk, hc]; rfl
   rw [e2, ← q1R r ((n, c) :: acc) hr]
   simp only [hk, if_true, e1]
   rfl
  ·have e2 : q0o env.cells ((n, k) :: r) acc = q0o env.cells r acc := by
    show (if (k == NameKind.free) = true then q0o env.cells r ((n, (env.cells.lookup n).getD 0) :: acc) else q0o env.cells r acc) = _
    rw [if_neg hk]
   rw [e2, ← q1R r acc hr]
   simp only [hk, if_false]
   rfl
theorem q2A {scope : Scope} {env : Env} (h : ∀ y ∈ scope.names, y.2 = NameKind.free -> ∃ c, env.cells.lookup y.1 = some c) : closureFor scope env = pure (q0o env.cells scope.names []) := by
 have q := q1R (env := env) scope.names [] h
 unfold closureFor
 first
  | exact (congrArg (λ t => (t >>= λ cs => pure cs)) q).trans rfl
  | (simp only [q]; rfl)
theorem q2s {cells : List (Str × Addr)} : ∀ {names : List (Str × NameKind)} {acc : List (Str × Addr)} {x : Str} {c : Addr}, (∀ y ∈ names, y.2 = NameKind.free -> ∃ c, cells.lookup y.1 = some c) ->
  (x, c) ∈ q0o cells names acc -> (x, c) ∈ acc \/ (cells.lookup x = some c /\ (x, NameKind.free) ∈ names)
 | [], acc, x, c, _, h => .inl h
 | (n, k) :: r, acc, x, c, hh, h => by
  have hr : ∀ y ∈ r, y.2 = NameKind.free -> ∃ c, cells.lookup y.1 = some c := λ y hy => hh y (List.mem_cons_of_mem _ hy)
  unfold q0o at h
  by_cases hk : (k == NameKind.free) = true
  ·rw [if_pos hk] at h
   obtain ⟨c', hc⟩ := hh (n, k) List.mem_cons_self (beq_iff_eq.mp hk)
   rcases q2s hr h with z | ⟨z1, z2⟩
   ·rcases List.mem_cons.mp z with z | z
    ·cases z
     exact .inr ⟨by rw [hc]; rfl, by rw [← beq_iff_eq.mp hk]; exact List.mem_cons_self⟩
    ·exact .inl z
   ·exact .inr ⟨z1, List.mem_cons_of_mem _ z2⟩
  ·rw [if_neg hk] at h
   rcases q2s hr h with z | ⟨z1, z2⟩
   ·exact .inl z
   ·exact .inr ⟨z1, List.mem_cons_of_mem _ z2⟩
theorem q2h {cells : List (Str × Addr)} : ∀ {names : List (Str × NameKind)} {acc : List (Str × Addr)} {y : Str × Addr}, y ∈ acc -> y ∈ q0o cells names acc
 | [], _, _, h => h
 | (n, k) :: r, acc, y, h => by
  unfold q0o
  split
  ·exact q2h (List.mem_cons_of_mem _ h)
  ·exact q2h h
theorem q2k {cells : List (Str × Addr)} : ∀ {names : List (Str × NameKind)} {acc : List (Str × Addr)} {x : Str} {c : Addr}, (x, NameKind.free) ∈ names -> cells.lookup x = some c -> (x, c) ∈ q0o cells names acc
 | (n, k) :: r, acc, x, c, h, hc => by
  unfold q0o
  rcases List.mem_cons.mp h with z | z
  ·cases z
   rw [if_pos (show (NameKind.free == NameKind.free) = true from rfl), hc]
   exact q2h List.mem_cons_self
  ·split
   ·exact q2k z hc
   ·exact q2k z hc
theorem q1n : ∀ (names : List (Str × NameKind)) (n : Nat) (acc : List (Str × Addr)), cellsFrom n names acc = cellsFrom n names [] ++ acc
 | [], _, _ => rfl
 | (x, k) :: r, n, acc => by
  unfold cellsFrom
  split
  ·rw [q1n r (n + 1) ((x, n) :: acc), q1n r (n + 1) [(x, n)], List.append_assoc]; rfl
  ·exact q1n r n acc
theorem q2n : ∀ {names : List (Str × NameKind)} {n : Nat} {x : Str} {c : Addr}, (x, c) ∈ cellsFrom n names [] -> (x, NameKind.cell) ∈ names
 | [], _, _, _, h => nomatch h
 | (y, k) :: r, n, x, c, h => by
  unfold cellsFrom at h
  by_cases hk : (k == NameKind.cell) = true
  ·rw [if_pos hk, q1n] at h
   rcases List.mem_append.mp h with z | z
   ·exact List.mem_cons_of_mem _ (q2n z)
   ·have z' : (x, c) = (y, n) := by simpa using z
    cases z'
    rw [beq_iff_eq.mp hk]; exact List.mem_cons_self
  ·rw [if_neg hk] at h
   exact List.mem_cons_of_mem _ (q2n h)
theorem q2g {α : Type} {x : Str} : ∀ {l r : List (Str × α)}, (l ++ r).lookup x = (l.lookup x).or (r.lookup x)
 | [], r => by simp
 | (y, v) :: l, r => by
  rw [List.cons_append, List.lookup_cons, List.lookup_cons]
  cases hb : x == y with
  | true => rfl
  | false => exact q2g
theorem q2R {α : Type} {x : Str} : ∀ {l : List (Str × α)}, (∀ c, (x, c) ∉ l) -> l.lookup x = none
 | [], _ => rfl
 | (y, v) :: l, h => by
  rw [List.lookup_cons]
  cases hb : x == y with
  | true => exact absurd (by rw [beq_iff_eq.mp hb]; exact List.mem_cons_self) (h v)
  | false => exact q2R λ c hc => h c (List.mem_cons_of_mem _ hc)
theorem q2P {α : Type} {x : Str} : ∀ {l : List (Str × α)} {c : α}, (x, c) ∈ l -> ∃ c', l.lookup x = some c'
 | (y, v) :: l, c, h => by
  rw [List.lookup_cons]
  cases hb : x == y with
  | true => exact ⟨v, rfl⟩
  | false =>
   rcases List.mem_cons.mp h with z | z
   ·cases z; rw [beq_self_eq_true] at hb; cases hb
   ·exact q2P z
theorem q0V {α : Type} {x : Str} : ∀ {l : List (Str × α)} {c : α}, (l.map (·.1)).Nodup -> (x, c) ∈ l -> l.lookup x = some c
 | (y, v) :: l, c, nd, h => by
  rw [List.lookup_cons]
  rw [List.map_cons] at nd
  have nd' := List.nodup_cons.mp nd
  rcases List.mem_cons.mp h with z | z
  ·cases z; rw [beq_self_eq_true]
  ·have : x ≠ y := λ e => nd'.1 (by rw [← e]; exact List.mem_map.mpr ⟨_, z, rfl⟩)
   rw [beq_eq_false_iff_ne.mpr this]
   exact q0V nd'.2 z
theorem q1T {scope : Scope} {env : Env} {x : Str} : (relabel scope env).names.lookup x = (scope.names.lookup x).map λ k => if (k == NameKind.free && env.scope.kind == .function && env.kindOf x == some .cell) = true then NameKind.cell else k := by
 unfold relabel
 show (scope.names.map _).lookup x = _
 generalize scope.names = l
 induction l with
 | nil => rfl
 | cons y r ih =>
  obtain ⟨n, k⟩ := y
  rw [List.map_cons]
  show List.lookup x ((if (k == NameKind.free && env.scope.kind == .function && env.kindOf n == some .cell) = true then (n, NameKind.cell) else (n, k)) :: _) = _
  have e : (if (k == NameKind.free && env.scope.kind == .function && env.kindOf n == some .cell) = true then (n, NameKind.cell) else (n, k)) = (n, if (k == NameKind.free && env.scope.kind == .function && env.kindOf n == some .cell) = true then NameKind.cell else k) := by split <;> rfl
  rw [e, List.lookup_cons, List.lookup_cons]
  cases hb : x == n with
  | true => rw [beq_iff_eq.mp hb]; rfl
  | false => exact ih
theorem q6o {M : Model} {A : Around} {E : Value -> Shared -> Prop} {s : Shared} {scope : Scope} {g : Addr} {cl : List (Str × Addr)} {q : Str} {env : Env} {Q : Env -> Shared -> Prop}
  (hQ : Q (newEnv scope s.heap.objs.size g (cellsFrom (s.heap.objs.size + 1) scope.names cl) q none .none (some env) builtinsNs) { s with heap := pushCells (s.heap.push { cls := .type "dict", data := .dict #[] }) scope.names }) :
  wpAny M A (newFunctionEnv scope g cl [] q none .none (some env)) Q E s := by
 simp only [newFunctionEnv, Option.isSome_some, if_true]
 refine wpAny_bind (wpAny_alloc ?_)
 refine wpAny_bind (wpAny_layCells _ (λ name kind cells => by cases hkc : kind == NameKind.cell <;> simp [hkc]) _ _ _ _ ?_)
 rw [show ({ s with heap := s.heap.push { cls := .type "dict", data := .dict #[] } } : Shared).heap.objs.size = s.heap.objs.size + 1 from Heap.size_push ..]
 exact wpAny_bind (wpAny_pure (wpAny_pure hQ))
theorem q5o {prog : Program} {w : World} {A : Around} {R : Result -> Shared -> Prop} {s : Shared} {elt target iter : Expr} {ifs : List Expr} {scope : Scope} {pos : Pos} {it acc : Value} {env : Env} (I : Nat -> Shared -> Prop)
  (turn : ∀ n s, I n s -> wpAny (model prog w) A (pyNext it) (λ r s₁ => match r with
   | none => R (.ok .next) s₁
   | some v => wpAny (model prog w) A (letOwnedTupleGo target it v) (λ _ s₁' => wpAny (model prog w) A (assign target env v) (λ _ s₂ =>
     wpAny (model prog w) A (forIn ifs true λ c r => if r = true then do let ok ← isTrue c env (eval c env); pure (ForInStep.yield ok) else pure (ForInStep.yield r)) (λ ok s₃ =>
      if ok = true then wpAny (model prog w) A (eval elt env) (λ x s₄ =>
       wpAny (model prog w) A (call (.builtin "list.append") [acc, x]) (λ _ s₅ => ∃ m, m < n /\ I m s₅) (notedBy (model prog w) A env λ e s' => R (.error e) s') s₄) (notedBy (model prog w) A env λ e s' => R (.error e) s') s₃
      else ∃ m, m < n /\ I m s₃) (notedBy (model prog w) A env λ e s' => R (.error e) s') s₂) (notedBy (model prog w) A env λ e s' => R (.error e) s') s₁') (notedBy (model prog w) A env λ e s' => R (.error e) s') s₁) (notedBy (model prog w) A env λ e s' => R (.error e) s') s)
  (n : Nat) (h : I n s) :
  codeAny (model prog w) A (.compLoop (.ListComp elt [⟨target, iter, ifs, 0⟩] scope pos) 0 it acc env) R s := by
 refine codeAny_loop rfl I (λ n s hI => ?_) n h
 show wpAny _ A ((compTurn (.ListComp elt [⟨target, iter, ifs, 0⟩] scope pos) 0 it acc env).onRaise (λ x => do noteFrame x env; theTreesLotGoes x)) _ _ s
 refine wpAny_noted ?_
 rw [compTurn_list]
 refine wpAny_bind (wpAny_standAt (wpAny_bind (wpAny_mono (turn n s hI) (λ r s₁ h₁ => ?_) λ _ _ h' => h')))
 cases r with
 | none => exact wpAny_pure h₁
 | some v =>
  refine wpAny_bind (wpAny_mono h₁ (λ _ s₁' h₁' => ?_) λ _ _ h' => h')
  refine wpAny_bind (wpAny_mono h₁' (λ _ s₂ h₂ => wpAny_bind (wpAny_mono h₂ (λ ok s₃ h₃ => ?_) λ _ _ h' => h')) λ _ _ h' => h')
  cases ok with
  | false => exact wpAny_pure ⟨rfl, h₃⟩
  | true =>
   exact wpAny_bind (wpAny_bind (wpAny_mono h₃ (λ x s₄ h₄ => wpAny_bind (wpAny_mono h₄ (λ _ s₅ h₅ => wpAny_pure (wpAny_pure ⟨rfl, h₅⟩)) λ _ _ h' => h')) λ _ _ h' => h'))
theorem HOk.track {P : Program} {w : World} {H : Hp} {h : Heap} {a : Addr} {o : HO} (x : HOk P w H h) (hn : H a = none) (new : q1K P w (upd H a o) h a o) : HOk P w (upd H a o) h := λ b u e => by
 by_cases hb : b = a
 ·subst hb; rw [q0Q] at e; cases e; exact new
 ·rw [q0v hb] at e
  exact (x b u e).stay (λ c v _ q => q) (λ c q => by rw [q0v (q0y q hn)]; exact q) λ c xs q => by rw [q0v (q0y q hn)]; exact q
theorem Un.track {fs ex : List Addr} {H H' : Hp} {h h' : Heap} {a : Addr} {o : HO} (u : Un fs ex H H' h h') (hn : H' a = none) (hh : h.get? a = none) : Un fs ex H (upd H' a o) h h' where
 keep := u.keep
 slot := u.slot
 free := λ b ob q n hx => by
  have : b ≠ a := λ z => by rw [z, hh] at q; cases q
  rw [q0v this]; exact u.free b ob q n hx
 there := u.there
 tups := λ b xs q => by have z := u.tups b xs q; rw [q0v (q0y z hn)]; exact z
 frzs := λ b ob xs q => by have z := u.frzs b ob xs q; rw [q0v (q0y z hn)]; exact z
 tbls := λ b ps q => by
  obtain ⟨m, z⟩ := u.tbls b ps q
  exact ⟨m, by rw [q0v (q0y z hn)]; exact z⟩
structure CompScope (N N' : List Str) (sc osc : Scope) (fr : List (Option Nat)) : Prop where
 kind : sc.kind = .function
 nd : N'.Nodup
 snd : (sc.names.map (·.1)).Nodup
 len : fr.length = N'.length
 fre : ∀ (j i : Nat), fr[j]? = some (some i) -> ∃ x, N'[j]? = some x /\ N[i]? = some x /\ (x, NameKind.free) ∈ sc.names
 out : ∀ y ∈ sc.names, y.2 = NameKind.free -> osc.names.lookup y.1 = some .cell \/ osc.names.lookup y.1 = some .free
noncomputable def inner (fr : List (Option Nat)) (σ : St) : St := fr.map λ o => o.bind λ i => (σ[i]?).join
noncomputable def q0A (X : Cx) (scope : Scope) (N' : List Str) (C : Addr) (cells : List (Str × Addr)) (s₂ : Shared) (H₂ : Hp) (fp : List Addr) : Cx :=
 { X with N := N', s₀ := s₂, H₀ := H₂, env := compEnvC scope cells C X.env, outer := X.stack, stack := X.stack, ex := fp, fn := λ x => scope.names.lookup x == some .cell, pn := [], xe := λ _ _ => False }
section
variable {X : Cx} {pins : List (Addr × Obj)} {σ : St} {H : Hp} {s₂ : Shared} {N' : List Str} {scope : Scope} {fr : List (Option Nat)} {fp : List Addr}
noncomputable abbrev q2c : Obj := { cls := .type "list", dict := none, data := .seq ([] : List Value).toArray }
noncomputable abbrev q5E : Obj := { cls := .type "dict", data := .dict #[] }
theorem q9a (S : CompScope X.N N' scope X.env.scope fr) (I : Inv X pins σ H s₂) (f : ∀ b ∈ fp, FpOk X pins H b) (ho : ∀ b ∈ fp, @LT.lt Nat _ b s₂.heap.objs.size) {C : Nat} (hC : C = s₂.heap.objs.size + 1) {h4 : Heap} (h4e : h4 = pushCells ((s₂.heap.push q2c).push q5E) scope.names) :
  Inv (q0A X scope N' C (cellsFrom (C + 1) scope.names (q0o X.env.cells scope.names [])) s₂ H fp) [] (inner fr σ) H { s₂ with heap := h4 } /\ h4.get? s₂.heap.objs.size = some q2c /\ (∀ b o, s₂.heap.get? b = some o -> h4.get? b = some o) := by
 have hsz1 : (s₂.heap.push q2c).objs.size = s₂.heap.objs.size + 1 := Heap.size_push ..
 have hsz2 : ((s₂.heap.push q2c).push q5E).objs.size = C + 1 := by rw [Heap.size_push, hsz1, hC]
 have keep : ∀ b o, s₂.heap.get? b = some o -> h4.get? b = some o := λ b o e => by rw [h4e]; exact pushCells_keeps _ _ b o (Heap.get?_push_of_some _ (Heap.get?_push_of_some _ e))
 have hD : h4.get? s₂.heap.objs.size = some q2c := by rw [h4e]; exact pushCells_keeps _ _ _ _ (Heap.get?_push_of_some _ (Heap.get?_push_size _ rfl))
 have hns : h4.Ns C λ _ => none := by
  have q := (Heap.Ns.new (s₂.heap.push q2c) (.type "dict")).keeps (pushCells_keeps scope.names _)
  rw [hsz1, ← hC] at q
  rw [h4e]; exact q
 have ok := cellsFrom_ok scope.names ((s₂.heap.push q2c).push q5E) (C + 1) [] ⟨λ _ _ hm => (nomatch hm), List.Pairwise.nil⟩ (by rw [hsz2]; exact Nat.le_refl _)
 rw [hsz2, ← h4e] at ok
 have hfree : ∀ y ∈ scope.names, y.2 = NameKind.free -> ∃ c, X.env.cells.lookup y.1 = some c := λ y hy hk => I.ok.has y.1 (S.out y hy hk)
 generalize hcl : q0o X.env.cells scope.names [] = cl
 have memcl : ∀ {x : Str} {c : Addr}, (x, c) ∈ cl -> X.env.cells.lookup x = some c /\ (x, NameKind.free) ∈ scope.names := λ {x c} hm => by
  rw [← hcl] at hm
  rcases q2s hfree hm with z | z
  ·exact nomatch z
  ·exact z
 generalize hown : cellsFrom (C + 1) scope.names [] = own at ok
 have app : cellsFrom (C + 1) scope.names cl = own ++ cl := by rw [q1n, hown]
 rw [app]
 have memown : ∀ {x : Str} {c : Addr}, (x, c) ∈ own -> (x, NameKind.cell) ∈ scope.names := λ {x c} hm => by rw [← hown] at hm; exact q2n hm
 have L1 : ∀ x c, (own ++ cl).lookup x = some c -> ((x, c) ∈ own) \/ (X.env.cells.lookup x = some c /\ (x, NameKind.free) ∈ scope.names /\ own.lookup x = none) := λ x c e => by
  rw [q2g] at e
  cases q : own.lookup x with
  | some c' => rw [q] at e; cases e; exact .inl (PySem.mem_of_lookup q)
  | none => rw [q] at e; have z := memcl (PySem.mem_of_lookup (show cl.lookup x = some c from e)); exact .inr ⟨z.1, z.2, rfl⟩
 have own_ge : ∀ {x : Str} {c : Nat}, (x, c) ∈ own -> @LE.le Nat _ (C + 1) c := λ {x c} hm => (ok.empty x c hm).2
 have cell_lt : ∀ {x : Str} {c : Nat}, X.env.cells.lookup x = some c -> @LT.lt Nat _ c s₂.heap.objs.size := λ {x c} e => by
  obtain ⟨v, z⟩ := I.cell x c e
  exact z.lt
 have free_no : ∀ {x : Str}, (x, NameKind.free) ∈ scope.names -> own.lookup x = none := λ {x} hm => by
  refine q2R λ c hc => ?_
  have a := q0V S.snd hm
  have b := q0V S.snd (memown hc)
  rw [a] at b; cases b
 have cl_get : ∀ {x : Str} {c : Addr}, (x, NameKind.free) ∈ scope.names -> X.env.cells.lookup x = some c -> (own ++ cl).lookup x = some c := λ {x c} hm hc => by
  rw [q2g, free_no hm]
  obtain ⟨c', e⟩ := q2P (l := cl) (by rw [← hcl]; exact q2k hm hc)
  have z := (memcl (PySem.mem_of_lookup e)).1
  rw [hc] at z; cases z
  exact e
 have hX : (q0A X scope N' C (own ++ cl) s₂ H fp).Ok := by
  refine ⟨I.ok.mod, S.kind, I.ok.glob, I.ok.blt, ?_, λ x y c h1 h2 => ?_, λ x hx => ?_, λ x c hf hc => ?_, I.ok.hd, I.ok.frames, .inl rfl, λ b hb => ⟨?_, λ x c e => ?_⟩, I.bs, Nat.le_trans I.ok.bsz I.sz, λ b o e hb => ?_, λ b hb hs => ?_, I.stack, I.stkFree⟩
  ·show s₂.heap.objs.size <= C
   rw [hC]; exact Nat.le_succ _
  ·have h1 : (own ++ cl).lookup x = some c := h1
   have h2 : (own ++ cl).lookup y = some c := h2
   rcases L1 x c h1 with a | ⟨a, _⟩ <;> rcases L1 y c h2 with b | ⟨b, _⟩
   ·exact name_of_addr ok.apart a b
   ·exfalso; have q1 := own_ge a; have q2 := cell_lt b; omega
   ·exfalso; have q1 := own_ge b; have q2 := cell_lt a; omega
   ·exact I.ok.inj x y c a b
  ·have hx' : (relabel scope X.env).names.lookup x = some .cell \/ (relabel scope X.env).names.lookup x = some .free := hx
   show ∃ c, (own ++ cl).lookup x = some c
   rw [q1T] at hx'
   cases q : scope.names.lookup x with
   | none => rw [q] at hx'; rcases hx' with z | z <;> cases z
   | some k =>
    have km := PySem.mem_of_lookup q
    by_cases k1 : k = .cell
    ·subst k1
     have z := PySem.W.cellsFrom_some scope.names (C + 1) [] (.inl q)
     rw [hown] at z
     obtain ⟨c, z⟩ := Option.isSome_iff_exists.mp z
     exact ⟨c, by rw [q2g, z]; rfl⟩
    ·by_cases k2 : k = .free
     ·subst k2
      obtain ⟨c, e⟩ := hfree _ km rfl
      exact ⟨c, cl_get km e⟩
     ·exfalso
      rw [q] at hx'
      have e0 : (k == NameKind.free) = false := beq_eq_false_iff_ne.mpr k2
      simp only [Option.map_some, e0, Bool.false_and] at hx'
      rcases hx' with z | z
      ·exact k1 (by simpa using z)
      ·exact k2 (by simpa using z)
  ·have hf' : (scope.names.lookup x == some .cell) = true := hf
   have q : scope.names.lookup x = some .cell := by simpa using hf'
   have z := PySem.W.cellsFrom_some scope.names (C + 1) [] (.inl q)
   rw [hown] at z
   obtain ⟨c', z⟩ := Option.isSome_iff_exists.mp z
   have hc' : (own ++ cl).lookup x = some c := hc
   rw [q2g, z] at hc'
   have e : c' = c := Option.some.inj hc'
   subst e
   have := own_ge (PySem.mem_of_lookup z)
   show @LE.le Nat _ s₂.heap.objs.size c'
   omega
  ·have := ho b hb
   show @Ne Nat b C
   omega
  ·rcases L1 x c e with a | ⟨a, _⟩
   ·have := own_ge a; have := ho b hb; show @Ne Nat c b; omega
   ·exact (f b hb).2.2.2.2.1 x c a
  ·rcases (f b hb).2.2.2.1 with z | z
   ·exact I.ok.noex b o e z
   ·exact absurd (Nat.lt_of_lt_of_le (Heap.lt_size e) (Nat.le_trans I.ok.bsz z)) (Nat.lt_irrefl _)
  ·rcases List.mem_cons.mp (I.stkSub b hs) with z | z
   ·exact (f b hb).2.1 z
   ·exact (f b hb).2.2.1 z
 refine ⟨⟨hX, rfl, I.bare, Un.kept keep, ⟨_, hns, λ i x v e1 e2 e3 => ?_⟩, λ x c e => ?_, I.hok.fresh (by show @LE.le Nat _ s₂.heap.objs.size C; omega), λ x c e => ?_, λ p hp => absurd (show p ∈ ([] : List (Addr × Obj)) from hp) (by simp), I.hok.kept keep, ?_⟩, hD, keep⟩
 ·have e1 : N'[i]? = some x := e1
  unfold inner at e2
  rw [List.getElem?_map] at e2
  cases q : fr[i]? with
  | none => rw [q] at e2; cases e2
  | some o =>
   rw [q] at e2
   cases o with
   | none => cases e2
   | some j =>
    have e2' : (σ[j]?).join = some v := Option.some.inj e2
    have hv : σ[j]? = some (some v) := by
     cases z : σ[j]? with
     | none => rw [z] at e2'; cases e2'
     | some o => rw [z] at e2'; rw [show o = some v from e2']
    obtain ⟨x', a1, a2, a3⟩ := S.fre i j q
    rw [e1] at a1; cases a1
    obtain ⟨m, hn, hl⟩ := I.loc
    have ko := S.out _ a3 rfl
    obtain ⟨u, r, l⟩ := hl j x v a2 hv (ko.elim (λ z => .inr (.inl z)) λ z => .inr (.inr z))
    rcases l with ⟨k, _⟩ | ⟨k, c, e, z⟩
    ·have k' : X.env.scope.names.lookup x = some .local := k
     rcases ko with w | w <;> (rw [show X.env.scope.names.lookup x = _ from w] at k'; cases k')
    ·refine ⟨u, r, .inr ⟨?_, c, cl_get a3 e, z.keeps keep⟩⟩
     show (relabel scope X.env).names.lookup x = some .cell \/ (relabel scope X.env).names.lookup x = some .free
     rw [q1T, q0V S.snd a3]
     simp only [Option.map_some]
     split
     ·exact .inl rfl
     ·exact .inr rfl
 ·rcases L1 x c e with a | ⟨a, _⟩
  ·exact ⟨none, (ok.empty x c a).1⟩
  ·obtain ⟨v, z⟩ := I.cell x c a
   exact ⟨v, z.keeps keep⟩
 ·rcases L1 x c e with a | ⟨a, _⟩
  ·exact I.hok.fresh (by have := own_ge a; show @LE.le Nat _ s₂.heap.objs.size c; omega)
  ·exact I.freeC x c a
 ·show (inner fr σ).length = N'.length
  unfold inner
  rw [List.length_map, S.len]
end
noncomputable def PTs (X : Cx) (ifs : List Expr) (t : TT) : Prop :=
 ∀ (pins : List (Addr × Obj)) (s : Shared) (σ : St) (H : Hp) (Q : Bool -> Hp -> Prop), Inv X pins σ H s -> t σ H Q ->
  wpAny (model X.prog X.w) X.A (forIn ifs true λ c r => if r = true then do let ok ← isTrue c X.env (eval c X.env); pure (ForInStep.yield ok) else pure (ForInStep.yield r)) (TP X pins σ Q) X.xe s
noncomputable def tYes : TT := λ _ H Q => Q true H
theorem z0P {X : Cx} : PTs X [] tYes := λ _ _ _ H _ I h => wpAny_tests_nil ⟨H, I, h⟩
theorem z0H {X : Cx} {c : Expr} {t : TT} (h : PT X c t) : PTs X [c] t := λ pins s σ H Q I hq => wpAny_tests_one (h pins s σ H Q I hq)
noncomputable def z1o (J : It) (g : TG) (tc : TT) (te : TE) (Fin : List V -> Hp -> Prop) (σ : St) (H : Hp) : Prop :=
 ∃ W : Nat -> Nat -> List V -> St -> Hp -> Prop, (∃ m, W 0 m [] σ H) /\ ∀ i m ys σ H, W i m ys σ H ->
  (J.stop i H /\ Fin ys H) \/ (J.go i H /\ ys.length < sizeLine /\ ∀ x H', J.yld i H x H' -> g x σ H' λ σ2 H2 => tc σ2 H2 λ b H3 =>
   if b = true then te σ2 H3 λ y H4 => ∃ m', m' < m /\ W (i + 1) m' (ys ++ [y]) σ2 H4 else ∃ m', m' < m /\ W (i + 1) m' ys σ2 H3)
theorem Vals.snoc {xs : List V} {us : List Value} {x : V} {u : Value} (r : Vals xs us) (q : RelV x u) : Vals (xs ++ [x]) (us ++ [u]) := r.append (.cons q .nil)
theorem q6E {X : Cx} {pins : List (Addr × Obj)} {σ : St} {H : Hp} {s₂ : Shared} {N' : List Str} {scope : Scope} {fr : List (Option Nat)} {fp : List Addr} {iter elt tg : Expr} {ifs : List Expr} {pos : Pos} {g : TG} {te : TE} {tc : TT} {it : Addr} {tn : Nat -> Heap -> Prop} {J : It}
  {E : Value -> Shared -> Prop} {Fin : List V -> Hp -> Prop} {RR : Value -> Addr -> Result -> Shared -> Prop}
  (S : CompScope X.N N' scope X.env.scope fr) (hc : X.calm = true)
  (hg : ∀ C cells s₂ H₂ fp, PG (q0A X scope N' C cells s₂ H₂ fp) tg g) (ht : ∀ C cells s₂ H₂ fp, PTs (q0A X scope N' C cells s₂ H₂ fp) ifs tc) (he : ∀ C cells s₂ H₂ fp, PE (q0A X scope N' C cells s₂ H₂ fp) elt te)
  (I : Inv X pins σ H s₂) (T : Turn X.prog X.w X.K tg J fp it tn) (st : tn 0 s₂.heap) (f : ∀ b ∈ fp, FpOk X pins H b) (h : z1o J g tc te Fin (inner fr σ) H)
  (hRR : ∀ D C H' s' m ys, Inv X pins σ (upd H' D (.lst ys)) s' -> H' D = none -> s'.heap.Ns C m -> upd H' D (.lst ys) C = none -> C ≠ X.env.locals -> X.s₀.heap.objs.size <= C -> (∀ x c, X.env.cells.lookup x = some c -> c ≠ C) -> (∀ p ∈ X.pn ++ pins, p.1 ≠ C) -> Fin ys H' -> RR (.ref D) C (.ok .next) s') :
  wpAny (model X.prog X.w) X.A (newList []) (λ acc s₃ => wpAny (model X.prog X.w) X.A (newFunctionEnv scope X.env.globals (q0o X.env.cells scope.names []) [] X.env.qual none .none (some X.env)) (λ cenv s₄ =>
   codeAny (model X.prog X.w) X.A (.compStart (.ListComp elt [⟨tg, iter, ifs, 0⟩] scope pos) 0 (.ref it) acc { cenv with scope := relabel scope X.env }) (RR acc cenv.locals) s₄) E s₃) E s₂ := by
 have ho : ∀ b ∈ fp, b < s₂.heap.objs.size := λ b hb => by
  obtain ⟨o, e, _⟩ := T.obj _ _ st b hb
  exact Heap.lt_size e
 refine wpAny_newObj_type (q6o ?_)
 have hsz1 : (s₂.heap.push q2c).objs.size = s₂.heap.objs.size + 1 := Heap.size_push ..
 obtain ⟨I4, hD4, keep⟩ := q9a (C := s₂.heap.objs.size + 1) S I f ho rfl rfl
 show codeAny _ _ (.compStart _ 0 (.ref it) (.ref s₂.heap.objs.size) (compEnvC scope (cellsFrom ((s₂.heap.push q2c).objs.size + 1) scope.names (q0o X.env.cells scope.names [])) (s₂.heap.push q2c).objs.size X.env)) (RR (.ref s₂.heap.objs.size) (s₂.heap.push q2c).objs.size) { s₂ with heap := pushCells ((s₂.heap.push q2c).push q5E) scope.names }
 rw [hsz1]
 generalize hDe : s₂.heap.objs.size = D at *
 generalize cellsFrom (D + 1 + 1) scope.names (q0o X.env.cells scope.names []) = cells at *
 generalize pushCells ((s₂.heap.push q2c).push q5E) scope.names = h4 at *
 have hfp : ∀ {pins' : List (Addr × Obj)} {H' : Hp}, (∀ b ∈ fp, H' b = none) -> (∀ p ∈ pins', p.1 = D) -> ∀ b ∈ fp, FpOk (q0A X scope N' (D + 1) cells s₂ H fp) pins' H' b := λ {pins' H'} hn hp b hb =>
  ⟨hn b hb, (I4.ok.exf b hb).1, I4.ok.exfs b hb, .inl hb, (I4.ok.exf b hb).2, λ p hp' z => by
   have hp' : p ∈ ([] : List (Addr × Obj)) ++ pins' := hp'
   rw [List.nil_append] at hp'
   have := ho b hb
   rw [← z, hp p hp'] at this
   exact Nat.lt_irrefl _ this⟩
 obtain ⟨W, ⟨m0, w0⟩, turn⟩ := h
 have hDC : D ≠ (q0A X scope N' (D + 1) cells s₂ H fp).env.locals := by show D ≠ D + 1; omega
 have hDcell : ∀ x c, (q0A X scope N' (D + 1) cells s₂ H fp).env.cells.lookup x = some c -> c ≠ D := λ x c e z => by
  obtain ⟨v, o, hoc, hd⟩ := I4.cell x c e
  have q : h4.get? D = some o := by rw [← z]; exact hoc
  rw [hD4] at q; cases q; cases hd
 have hDfs : D ∉ (q0A X scope N' (D + 1) cells s₂ H fp).fs := λ z => by
  obtain ⟨_, o, ho', _⟩ := I4.ok.funs.mem z
  have := Heap.lt_size ho'
  have e : s₂.heap.objs.size = D := hDe
  exact absurd this (by show ¬ D < s₂.heap.objs.size; omega)
 have loop : codeAny (model X.prog X.w) X.A (.compLoop (.ListComp elt [⟨tg, iter, ifs, 0⟩] scope pos) 0 (.ref it) (.ref D) (compEnvC scope cells (D + 1) X.env)) (RR (.ref D) (D + 1)) { s₂ with heap := h4 } := by
  refine q5o (λ n s' => ∃ i ys its k σ' H', Inv (q0A X scope N' (D + 1) cells s₂ H fp) [] σ' H' s' /\ tn i s'.heap /\ (∀ b ∈ fp, H' b = none) /\ H' D = none /\
   s'.heap.get? D = some { cls := .type "list", data := .seq (its : List Value).toArray k } /\ Vals ys its /\ ys.length <= sizeLine /\ W i n ys σ' H') ?_ m0
   ⟨0, [], [], _, _, H, I4, T.keep _ _ _ st λ b _ o e => keep b o e, λ b hb => (f b hb).1, I.hok.fresh (by omega), hD4, .nil, Nat.zero_le _, w0⟩
  rintro n s3 ⟨i, ys, its, k, σ3, H3, I3, st3, fr3, hD3, oD3, rv, hl, w3⟩
  have I3p : Inv (q0A X scope N' (D + 1) cells s₂ H fp) [(D, { cls := .type "list", data := .seq its.toArray k })] σ3 H3 s3 := I3.pins_of λ p hp => by
   have e : p = (D, { cls := .type "list", data := .seq its.toArray k }) := by simpa using hp
   subst e
   exact ⟨oD3, hD3, hDC, hDfs, λ v z => by cases z⟩
  have pinD : ∀ p ∈ [((D : Addr), ({ cls := .type "list", data := .seq its.toArray k } : Obj))], p.1 = D := λ p hp => by
   have e : p = (D, { cls := .type "list", data := .seq its.toArray k }) := by simpa using hp
   subst e; rfl
  rcases turn i n ys σ3 H3 w3 with ⟨stop, fin⟩ | ⟨go, hlt, step⟩
  ·refine thn (T.done (q0A X scope N' (D + 1) cells s₂ H fp) rfl rfl rfl hc i _ s3 σ3 H3 _ I3p (hfp fr3 pinD) st3 stop) λ r s4 ⟨hr, I4'⟩ => ?_
   subst hr
   have oD := (I4'.pin (D, _) (List.mem_append_right _ List.mem_cons_self)).1
   have un : Un (frs X.stack) fp H H3 s₂.heap s4.heap := I4'.base
   have hn : s₂.heap.get? D = none := Heap.get?_none_of_le (by rw [hDe]; exact Nat.le_refl _)
   obtain ⟨mC, hnC, _⟩ := I4'.loc
   refine hRR D (D + 1) H3 s4 mC ys (I.call' I4'.os (un.track hD3 hn) (I4'.hok.track hD3 ⟨hl, its, k, rv, oD⟩) I4'.bare λ b hb => ?_) hD3 hnC ?_ ?_ ?_ (λ x c e => ?_) (λ p hp => ?_) fin
   ·obtain ⟨_, f1, f2, f3, f4, f5⟩ := f b hb
    exact ⟨f3, f1, f4, f5⟩
   ·rw [q0v (show @Ne Nat (D + 1) D by omega)]; exact I4'.free
   ·have q : @LT.lt Nat _ X.env.locals s₂.heap.objs.size := I.lt
    show @Ne Nat (D + 1) X.env.locals
    omega
   ·have q : @LE.le Nat _ X.s₀.heap.objs.size s₂.heap.objs.size := I.sz
    show @LE.le Nat _ X.s₀.heap.objs.size (D + 1)
    omega
   ·obtain ⟨v, z⟩ := I.cell x c e
    have q : @LT.lt Nat _ c s₂.heap.objs.size := z.lt
    show @Ne Nat c (D + 1)
    omega
   ·have q : @LT.lt Nat _ p.1 s₂.heap.objs.size := Heap.lt_size (I.pin p hp).1
    show @Ne Nat p.1 (D + 1)
    omega
  ·refine thn (T.item (q0A X scope N' (D + 1) cells s₂ H fp) rfl rfl rfl hc i _ s3 σ3 H3 _ I3p (hfp fr3 pinD) st3 go) λ r s4 ⟨u, hr, h4'⟩ => ?_
   subst hr
   refine thn h4' λ _ s5 ⟨x, H5, I5, r5, y5, st5, fr5⟩ => ?_
   have I5' := I5.pinned (hfp fr5 pinD) (T.obj _ _ st5)
   refine wpAny_mono (hg (D + 1) cells s₂ H fp _ s5 σ3 H5 x u _ I5' r5 (step x H5 y5)) (λ _ s6 ⟨σ6, H6, I6, q6⟩ => ?_) λ _ _ z => z.elim
   refine wpAny_mono (ht (D + 1) cells s₂ H fp _ s6 σ6 H6 _ I6 q6) (λ b s7 ⟨H7, I7, q7⟩ => ?_) λ _ _ z => z.elim
   have fpK : ∀ {H' : Hp} {s' : Shared}, Inv (q0A X scope N' (D + 1) cells s₂ H fp) ([(D, { cls := .type "list", data := .seq its.toArray k })] ++ q5t fp s5.heap) σ6 H' s' -> tn (i + 1) s'.heap /\ (∀ b ∈ fp, H' b = none) /\ s'.heap.get? D = some { cls := .type "list", data := .seq its.toArray k } /\ H' D = none := λ {H' s'} J' => by
    refine ⟨T.keep _ _ _ st5 λ b hb o e => (J'.pin (b, o) (List.mem_append_right _ (List.mem_append_right _ (q2J hb e)))).1, λ b hb => ?_, ?_, ?_⟩
    ·obtain ⟨o, e, d⟩ := T.obj _ _ st5 b hb
     exact (J'.pin (b, o) (List.mem_append_right _ (List.mem_append_right _ (q2J hb e)))).2.1
    ·exact (J'.pin (D, _) (List.mem_append_right _ (List.mem_append_left _ List.mem_cons_self))).1
    ·exact (J'.pin (D, _) (List.mem_append_right _ (List.mem_append_left _ List.mem_cons_self))).2.1
   cases b with
   | false =>
    rw [if_neg Bool.false_ne_true] at q7 ⊢
    obtain ⟨m', hm, w7⟩ := q7
    obtain ⟨k1, k2, k3, k4⟩ := fpK I7
    exact ⟨m', hm, i + 1, ys, its, k, σ6, H7, I7.pins_of (λ p hp => (nomatch hp)), k1, k2, k4, k3, rv, hl, w7⟩
   | true =>
    rw [if_pos rfl] at q7 ⊢
    refine wpAny_mono (he (D + 1) cells s₂ H fp _ s7 σ6 H7 _ I7 q7) (λ y s8 ⟨v8, H8, I8, r8, q8⟩ => ?_) λ _ _ z => z.elim
    obtain ⟨m', hm, w8⟩ := q8
    obtain ⟨k1, k2, k3, k4⟩ := fpK I8
    have hits : its.length <= sizeLine := by rw [← rv.length]; exact hl
    refine append_at k3 (λ h9 hs9 hD9 => ?_) (by rw [List.size_toArray]; exact hits)
    have I9 : Inv (q0A X scope N' (D + 1) cells s₂ H fp) [] σ6 H8 s8 := I8.pins_of λ p hp => (nomatch hp)
    refine ⟨m', hm, i + 1, ys ++ [v8], its ++ [y], k + 1, σ6, H8, I9.turned (it := D) (t' := s8.toks) (λ b o hb e => (hs9.2 b hb).trans e) k4 hDC (.inr (by show s₂.heap.objs.size <= D; omega)) hDcell (λ p hp => (nomatch hp)), ?_, k2, k4, ?_, rv.snoc r8, ?_, w8⟩
    ·exact T.keep _ _ _ k1 λ b hb o e => (hs9.2 b (by have q : @LT.lt Nat _ b D := ho b hb; show @Ne Nat b D; omega)).trans e
    ·rw [hD9, List.push_toArray]
    ·rw [List.length_append, List.length_singleton]; omega
 exact codeAny_compStart_list loop (T.self X.A 0 _ _ _ (T.keep _ _ _ st λ b _ o e => keep b o e) loop)
noncomputable def z0L (fr : List (Option Nat)) (wi : TI) (g : TG) (tc : TT) (te : TE) : TE := λ σ H Q => wi σ H λ J H1 => z1o J g tc te (λ ys H' => ∀ p, H' p = none -> Q (.ref p) (upd H' p (.lst ys))) (inner fr σ) H1
theorem z0D {X : Cx} {N' : List Str} {scope : Scope} {fr : List (Option Nat)} {iter elt tg : Expr} {ifs : List Expr} {pos : Pos} {wi : TI} {g : TG} {te : TE} {tc : TT} (S : CompScope X.N N' scope X.env.scope fr) (hc : X.calm = true) (hi : PI X tg iter wi)
  (hg : ∀ C cells s₂ H₂ fp, PG (q0A X scope N' C cells s₂ H₂ fp) tg g) (ht : ∀ C cells s₂ H₂ fp, PTs (q0A X scope N' C cells s₂ H₂ fp) ifs tc) (he : ∀ C cells s₂ H₂ fp, PE (q0A X scope N' C cells s₂ H₂ fp) elt te)
  (hs : ∀ x, foldedSetIterable iter X.env x = pure x := by intro _; rfl) : PE X (.ListComp elt [⟨tg, iter, ifs, 0⟩] scope pos) (z0L fr wi g tc te) := by
 intro pins s σ H Q I h
 rw [eval_ListComp]
 have hfree : ∀ y ∈ scope.names, y.2 = NameKind.free -> ∃ c, X.env.cells.lookup y.1 = some c := λ y hy hk => I.ok.has y.1 (S.out y hy hk)
 refine wpAny_comprehension_free (use := none) rfl hs (q2A hfree) S.kind (λ x hx hl => q0V S.snd (by rw [← hl]; exact hx)) (thn (hi pins s σ H _ I h) λ v s1 h1 => thn h1 λ itv s2 h2 => ?_)
 obtain ⟨it, fp, tn, J, H2, e, I2, T, st2, f2, w⟩ := h2
 subst e
 refine q6E (RR := λ acc C => compPost (model X.prog X.w) X.A X.xe none (EP X pins σ Q) acc C) S hc hg ht he I2 T st2 f2 w ?_
 intro D C H' s' m ys I' hD hnC hCn hCL hCs hCc hCp fin
 exact ⟨m, hnC, λ h' hs' => ⟨.ref D, _, I'.turned (it := C) (t' := s'.toks) (λ b o hb e => (hs'.2 b hb).trans e) hCn hCL (.inr hCs) hCc hCp, rfl, fin D hD⟩⟩
theorem q7c {X : Cx} {N' : List Str} {scope : Scope} {fr : List (Option Nat)} {iter elt tg : Expr} {ifs : List Expr} {pos spos py : Pos} {y : Str} {i : Nat} {wi : TI} {g : TG} {te : TE} {tc : TT} (S : CompScope X.N N' scope X.env.scope fr) (hc : X.calm = true) (hN : X.N.Nodup) (hiN : X.N[i]? = some y)
  (hy : X.env.scope.names.lookup y = some .local) (hi : PI X tg iter wi)
  (hg : ∀ C cells s₂ H₂ fp, PG (q0A X scope N' C cells s₂ H₂ fp) tg g) (ht : ∀ C cells s₂ H₂ fp, PTs (q0A X scope N' C cells s₂ H₂ fp) ifs tc) (he : ∀ C cells s₂ H₂ fp, PE (q0A X scope N' C cells s₂ H₂ fp) elt te)
  (hsw : swapsWith (.ListComp elt [⟨tg, iter, ifs, 0⟩] scope pos) (some (.Name y py)) spos.line X.env = pure true := by rfl)
  (hs : ∀ x, foldedSetIterable iter X.env x = pure x := by intro _; rfl) : PS X (.Assign [.Name y py] (.ListComp elt [⟨tg, iter, ifs, 0⟩] scope pos) spos) (tAsg (z0L fr wi g tc te) (q7k i)) := by
 intro pins s σ H Dn I h
 rw [exec_Assign_Name_used _ _ _ _ hsw]
 refine wpAny_bind (wpAny_standAt (wpAny_bind ?_))
 show wpAny _ _ (do let _ ← comprehension (.ListComp elt [⟨tg, iter, ifs, 0⟩] scope pos) scope X.env _ (newList []) false (eval iter X.env) (some (assign (.Name y py) X.env))) _ _ s
 have hfree : ∀ y ∈ scope.names, y.2 = NameKind.free -> ∃ c, X.env.cells.lookup y.1 = some c := λ y hy hk => I.ok.has y.1 (S.out y hy hk)
 refine wpAny_bind (wpAny_mono (wpAny_comprehension_free (use := some (assign (.Name y py) X.env)) (Q := λ _ s' => SP X pins Dn .next s') rfl hs (q2A hfree) S.kind (λ x hx hl => q0V S.snd (by rw [← hl]; exact hx))
  (thn (hi pins s σ H _ I h) λ v s1 h1 => thn h1 λ itv s2 h2 => ?_)) (λ _ s' hq => wpAny_pure (wpAny_pure hq)) λ _ _ e => e)
 obtain ⟨it, fp, tn, J, H2, e, I2, T, st2, f2, w⟩ := h2
 subst e
 refine q6E (RR := λ acc C => compPost (model X.prog X.w) X.A X.xe (some (assign (.Name y py) X.env)) (λ _ s' => SP X pins Dn .next s') acc C) S hc hg ht he I2 T st2 f2 w ?_
 intro D C H' s' m ys I' hD hnC hCn hCL hCs hCc hCp fin
 refine wpAny_assign_Name (q5S (v := .ref D) I' hN hiN (Or.inl hy) rfl (λ s'' I'' ⟨a, hsb, ha⟩ => ⟨m, hnC.sameBut hsb ?_, λ h' hs' => ⟨_, _, I''.turned (it := C) (t' := s''.toks) (λ b o hb e => (hs'.2 b hb).trans e) hCn hCL (.inr hCs) hCc hCp, fin D hD⟩⟩) (.inr hy))
 rcases ha with z | z
 ·rw [z]; exact hCL
 ·exact Ne.symm (hCc y a z)
end L2
end
section
namespace L2
open PySem PySem.Spec PyProof.Rows
theorem q1K.there {P : Program} {w : World} {H : Hp} {h : Heap} {a : Addr} {o : HO} (x : q1K P w H h a o) : ∃ ob, h.get? a = some ob := by
 cases o with
 | lst xs => obtain ⟨_, _, _, _, e⟩ := x; exact ⟨_, e⟩
 | tup xs => obtain ⟨_, _, _, ob, e, _⟩ := x; exact ⟨_, e⟩
 | dK kvs => obtain ⟨_, _, _, _, o, _, _, e, _⟩ := x; exact ⟨_, e⟩
 | dT kvs => obtain ⟨_, _, _, _, o, _, _, e, _⟩ := x; exact ⟨_, e⟩
 | set S n => obtain ⟨o, _, _, _, e, _⟩ := x; exact ⟨_, e⟩
 | ins C dx fs => obtain ⟨_, _, _, e, _⟩ := x; exact ⟨_, e⟩
 | own y => obtain ⟨_, e⟩ := x; exact ⟨_, e⟩
 | xd fs => obtain ⟨_, ⟨_, _, _, e, _⟩, _⟩ := x; exact ⟨_, e⟩
 | rng lo hi => obtain ⟨_, _, _, e⟩ := x; exact ⟨_, e⟩
 | frz ob u => obtain ⟨e, _⟩ := x; exact ⟨_, e⟩
 | tbl ps => exact ⟨_, (show h.get? a = some _ from x)⟩
 | met f y => exact ⟨_, (show h.get? a = some _ from x)⟩
 | ext φ => obtain ⟨_, ⟨_, e⟩, _⟩ := x; exact ⟨_, e⟩
structure Fly (P : Program) (w : World) (base : Heap) (l : List Env) (ea : Addr) (C : Value) (H : Hp) (B h : Heap) : Prop where
 fly : ∃ a0, Heap.FlyingW B l ea C a0 h
 bas : ∀ b o, base.get? b = some o -> B.get? b = some o
 hok : HOk P w H B
theorem Fly.stays {P : Program} {w : World} {base : Heap} {l : List Env} {ea : Addr} {C : Value} {H : Hp} {B h : Heap} (F : Fly P w base l ea C H B h) : ∀ b o, B.get? b = some o -> h.get? b = some o := by
 obtain ⟨a0, f⟩ := F.fly
 exact f.1
theorem Fly.newE {P : Program} {w : World} {base : Heap} {l : List Env} {ea : Addr} {C : Value} {H : Hp} {B h : Heap} (F : Fly P w base l ea C H B h) : B.get? ea = none := by
 obtain ⟨a0, f⟩ := F.fly
 exact f.2.1
theorem Fly.untr {P : Program} {w : World} {base : Heap} {l : List Env} {ea : Addr} {C : Value} {H : Hp} {B h : Heap} (F : Fly P w base l ea C H B h) : H ea = none := by
 cases q : H ea with
 | none => rfl
 | some o =>
  obtain ⟨ob, e⟩ := (F.hok ea o q).there
  rw [F.newE] at e; cases e
noncomputable def CXx (P : Program) (w : World) (base : Heap) : CXT := λ outer H s E e s' => ∃ (ea : Addr) (C : Value) (H' : Hp) (B : Heap), e = .ref ea /\ s'.os = s.os /\ AllBare s'.gens /\ Un (frs outer) [] H H' s.heap s'.heap /\
 Fly P w base outer ea C H' B s'.heap /\ (∀ b o, s.heap.get? b = some o -> b ∉ frs outer -> ∃ o', B.get? b = some o') /\ E C none H'
theorem Un.flown {fs ex : List Addr} {H H' : Hp} {h0 h1 h2 B : Heap} (u : Un fs ex H H' h0 h1) (cov : ∀ b o, h0.get? b = some o -> b ∉ fs -> b ∉ ex -> ∃ o', B.get? b = some o') (s1 : ∀ b o, B.get? b = some o -> h1.get? b = some o) (s2 : ∀ b o, B.get? b = some o -> h2.get? b = some o)
  (up : h1.UpToSlots h2) (fd : ∀ b ∈ fs, b ∉ ex /\ H b = none /\ ∀ o, h0.get? b = some o -> ∀ vs, o.data ≠ .fields vs) : Un fs ex H H' h0 h2 := by
 have keep : ∀ b o, h0.get? b = some o -> H b = none -> b ∉ fs -> b ∉ ex -> h2.get? b = some o := λ b o e n hb hx => by
  have e1 := u.keep b o e n hb hx
  obtain ⟨o', q⟩ := cov b o e hb hx
  have q1 := s1 b o' q
  rw [e1] at q1; cases q1
  exact s2 b o q
 have slot : ∀ b o, h0.get? b = some o -> H b = none -> b ∈ fs -> b ∉ ex -> ∃ sl, h2.get? b = some { o with slots := sl } := λ b o e n hb hx => by
  obtain ⟨sl, e1⟩ := u.slot b o e n hb hx
  obtain ⟨sl', e2⟩ := up b _ e1 ((fd b hb).2.2 o e)
  exact ⟨sl', e2⟩
 refine ⟨keep, slot, u.free, λ b o e hx => ?_, u.tups, u.frzs, u.tbls⟩
 by_cases hb : b ∈ fs
 ·obtain ⟨sl, q⟩ := slot b o e (fd b hb).2.1 hb hx
  exact ⟨_, q⟩
 ·obtain ⟨o', q⟩ := cov b o e hb hx
  exact ⟨o', s2 b o' q⟩
section
variable {X : Cx} {pins : List (Addr × Obj)} {σ : St} {H : Hp} {s : Shared}
theorem Inv.frameData (I : Inv X pins σ H s) : ∀ b ∈ X.fs, b ∉ X.ex /\ X.H₀ b = none /\ ∀ o, X.s₀.heap.get? b = some o -> ∀ vs, o.data ≠ .fields vs := λ b hb => by
 refine ⟨λ z => I.ok.exfs b z hb, I.ok.frf b hb, λ o e => ?_⟩
 obtain ⟨_, o', e', d⟩ := I.ok.funs.mem hb
 rw [e] at e'; cases e'
 exact d
theorem Inv.notStk (I : Inv X pins σ H s) {b : Addr} {o : Obj} (e : X.s₀.heap.get? b = some o) (hb : b ∉ X.fs) : b ∉ frs X.stack := λ z => by
 rcases List.mem_cons.mp (I.stkSub b z) with q | q
 ·exact absurd (Nat.lt_of_lt_of_le (Heap.lt_size e) I.ok.above) (by rw [q]; exact Nat.lt_irrefl _)
 ·exact hb q
theorem Inv.flown {h' : Heap} {t' : Nat} {l : List Env} {ea : Addr} {C : Value} {B : Heap} (I : Inv X pins σ H s) (F : Fly X.prog X.w X.base l ea C H B s.heap) (cov : ∀ b o, X.s₀.heap.get? b = some o -> b ∉ frs X.stack -> b ∉ X.ex -> ∃ o', B.get? b = some o')
  (pc : ∀ p ∈ X.pn ++ pins, ∃ o', B.get? p.1 = some o') (st : ∀ b o, B.get? b = some o -> h'.get? b = some o) (up : s.heap.UpToSlots h') : Inv X pins σ H { s with heap := h', toks := t' } := by
 have cellK : ∀ c v, s.heap.IsCell c v -> h'.IsCell c v := λ c v ⟨o, ho, hd⟩ => by
  obtain ⟨sl, q⟩ := up c o ho (λ vs z => by rw [hd] at z; cases z)
  exact ⟨_, q, hd⟩
 refine ⟨I.ok, I.os, I.bare, I.base.flown (λ b o e hb hx => cov b o e (I.notStk e hb) hx) F.stays st up I.frameData, ?_, λ x c e => ?_, I.free, I.freeC, λ p hp => ?_, F.hok.kept st, I.len⟩
 ·obtain ⟨m, hn, hl⟩ := I.loc
  refine ⟨m, up.ns hn, λ i x v e1 e2 e3 => ?_⟩
  obtain ⟨u, r, l⟩ := hl i x v e1 e2 e3
  refine ⟨u, r, ?_⟩
  rcases l with l | ⟨k, c, e, z⟩
  ·exact .inl l
  ·exact .inr ⟨k, c, e, cellK c _ z⟩
 ·obtain ⟨v, z⟩ := I.cell x c e
  exact ⟨v, cellK c v z⟩
 ·obtain ⟨e, n, ne, nf, d⟩ := I.pin p hp
  obtain ⟨o', q⟩ := pc p hp
  have q1 := F.stays _ _ q
  rw [e] at q1; cases q1
  exact ⟨st _ _ q, n, ne, nf, d⟩
end
section
variable {P : Program} {w : World} {K : PySem.W.Frag} {mg : Str -> Option Value} {base : Heap} {N : List Str} {qual : Str} {scope : Scope} {f : Addr} {cd : Value} {A : Around} {outer : List Env} {s : Shared} {H : Hp} {E : XK}
noncomputable abbrev cxD (P : Program) (w : World) (K : PySem.W.Frag) (mg : Str -> Option Value) (base : Heap) (N : List Str) (qual : Str) (scope : Scope) (f : Addr) (cd : Value) (A : Around) (outer : List Env) (s : Shared) (H : Hp) (E : XK) : Cx :=
 cxOf (CXx P w base) P w K mg base N qual scope f cd A outer s H E
theorem q5U {pins : List (Addr × Obj)} {σ : St} {H1 : Hp} {s1 : Shared} {h' : Heap} {ea : Addr} {C : Value} {vs : List Value} (I : Inv (cxD P w K mg base N qual scope f cd A outer s H E) pins σ H1 s1) (hx : Heap.MadeExcOf s1.heap h' ea C vs) (hE : E C none H1) :
  (cxD P w K mg base N qual scope f cd A outer s H E).xe (.ref ea) { s1 with heap := h' } := by
 have hstk := I.stack
 have hin : ∀ env ∈ (cxD P w K mg base N qual scope f cd A outer s H E).stack, ∀ a, env.frame = some a -> a ∈ frs (cxD P w K mg base N qual scope f cd A outer s H E).stack := λ env he b hb => List.mem_filterMap.mpr ⟨env, he, hb⟩
 have hB1 : ∀ b o, (PySem.W.hideAll s1.heap (frs (cxD P w K mg base N qual scope f cd A outer s H E).stack)).get? b = some o -> s1.heap.get? b = some o := λ b o q => PySem.W.of_hideAll _ q
 have hHid : ∀ b u, H1 b ≠ none -> s1.heap.get? b = some u -> (PySem.W.hideAll s1.heap (frs (cxD P w K mg base N qual scope f cd A outer s H E).stack)).get? b = some u := λ b u hb q => PySem.W.hideAll_get _ q λ z => hb (I.stkFree b z)
 refine wpAny_leaves_madeW (base := PySem.W.hideAll s1.heap (frs (cxD P w K mg base N qual scope f cd A outer s H E).stack)) (h := s1.heap) I.ok.frames rfl hB1 (PySem.W.funFrames_hide hstk hin) hx λ h2 t fl tup nt up => ?_
 have hcov : ∀ b o, s.heap.get? b = some o -> b ∉ frs outer -> ∃ o', (PySem.W.hideAll s1.heap (frs (cxD P w K mg base N qual scope f cd A outer s H E).stack)).get? b = some o' := λ b o e hb => by
  obtain ⟨o1, e1⟩ := I.base.there b o e (by intro z; exact nomatch z)
  exact ⟨o1, PySem.W.hideAll_get _ e1 (I.notStk e hb)⟩
 refine ⟨ea, C, H1, _, rfl, I.os, I.bare, I.base.flown (λ b o e hb _ => hcov b o e hb) hB1 fl.1 ((Heap.UpToSlots.of_keeps hx.keeps).trans up) I.frameData, ⟨⟨_, fl⟩, λ b o e => ?_, λ a o q => ?_⟩, hcov, hE⟩
 ·refine PySem.W.hideAll_get _ (I.bk b o e) λ z => ?_
  have q : base.get? b = none := (hstk.mem z).1
  rw [q] at e; cases e
 ·refine (I.hok a o q).stay (λ b u hc e => hHid b u ?_ e) (λ _ z => z) λ _ _ z => z
  rcases hc with z | z
  ·subst z; rw [q]; intro z; cases z
  ·rw [z]; intro z; cases z
theorem q9h {pins : List (Addr × Obj)} {σ : St} {H1 : Hp} {s1 : Shared} {ea : Addr} {C : Value} {B : Heap} (I : Inv (cxD P w K mg base N qual scope f cd A outer s H E) pins σ H1 s1) (F : Fly P w base (cxD P w K mg base N qual scope f cd A outer s H E).stack ea C H1 B s1.heap)
  (cov : ∀ b o, s.heap.get? b = some o -> b ∉ frs (cxD P w K mg base N qual scope f cd A outer s H E).stack -> ∃ o', B.get? b = some o') (hE : E C none H1) : (cxD P w K mg base N qual scope f cd A outer s H E).xe (.ref ea) s1 := by
 obtain ⟨a0, fl⟩ := F.fly
 refine wpAny_leaves_onW I.ok.frames rfl fl λ h2 fl2 up => ?_
 have hcov : ∀ b o, s.heap.get? b = some o -> b ∉ frs outer -> ∃ o', B.get? b = some o' := λ b o e hb => cov b o e (I.notStk e hb)
 exact ⟨ea, C, H1, B, rfl, I.os, I.bare, I.base.flown (λ b o e hb _ => hcov b o e hb) F.stays fl2.1 up I.frameData, ⟨⟨_, fl2⟩, F.bas, F.hok⟩, hcov, hE⟩
theorem q4E : q8k (CXx P w base) (cxD P w K mg base N qual scope f cd A outer s H E) E := by
 intro pins σ H0 s0 e s' I hcx
 obtain ⟨ea, C, H', B, rfl, os, bare, un, F, cov, hE⟩ := hcx
 have I' : Inv (cxD P w K mg base N qual scope f cd A outer s H E) pins σ H' s' := I.call' os un (F.hok.kept F.stays) bare λ b hb => nomatch hb
 refine q9h I' F (λ b o e hb => ?_) hE
 obtain ⟨o1, e1⟩ := I.base.there b o e (by intro z; exact nomatch z)
 exact cov b o1 e1 hb
end
noncomputable def excO (ea : Addr) (C : Value) : HO := .ext λ h => ∃ oe vs, h.get? ea = some oe /\ oe.cls = C /\ oe.data = .fields vs
theorem z1b {P : Program} {w : World} {H : Hp} {h : Heap} {ea : Addr} {C : Value} (x : ∃ oe vs, h.get? ea = some oe /\ oe.cls = C /\ oe.data = .fields vs) : q1K P w H h ea (excO ea C) := by
 refine ⟨x, ?_, λ h1 h2 p k => ?_⟩
 ·obtain ⟨oe, _, e, _⟩ := x; exact ⟨oe, e⟩
 ·obtain ⟨oe, vs, e, c, d⟩ := p
  exact ⟨oe, vs, k oe e, c, d⟩
noncomputable def XP (X : Cx) (pins : List (Addr × Obj)) (E : St -> Value -> Hp -> Prop) (e : Value) (s' : Shared) : Prop := ∃ (ea : Addr) (C : Value) (σ' : St) (H' : Hp) (B : Heap), e = .ref ea /\ Inv X pins σ' H' s' /\ Fly X.prog X.w X.base X.stack ea C H' B s'.heap /\
 (∀ b o, X.s₀.heap.get? b = some o -> b ∉ frs X.stack -> b ∉ X.ex -> ∃ o', B.get? b = some o') /\ (∀ p ∈ X.pn ++ pins, ∃ o', B.get? p.1 = some o') /\ E σ' C H'
noncomputable abbrev Cx.tryIn (X : Cx) (pins : List (Addr × Obj)) (E : St -> Value -> Hp -> Prop) : Cx := { X with pn := X.pn ++ pins, xe := XP X pins E }
noncomputable abbrev Cx.inExc (X : Cx) (ea : Addr) : Cx := { X with A := X.A.mark (some (.ref ea)), calm := false, xe := λ _ _ => False }
section
variable {X : Cx} {pins pins' : List (Addr × Obj)} {σ : St} {H : Hp} {s : Shared} {E : St -> Value -> Hp -> Prop} {ea : Addr}
theorem Cx.Ok.tryIn (k : X.Ok) : (X.tryIn pins E).Ok := ⟨k.mod, k.kind, k.glob, k.blt, k.above, k.inj, k.has, k.cab, k.hd, k.frames, k.stk, k.exf, k.bs, k.bsz, k.noex, k.exfs, k.funs, k.frf⟩
theorem Cx.Ok.untry (k : (X.tryIn pins E).Ok) : X.Ok := ⟨k.mod, k.kind, k.glob, k.blt, k.above, k.inj, k.has, k.cab, k.hd, k.frames, k.stk, k.exf, k.bs, k.bsz, k.noex, k.exfs, k.funs, k.frf⟩
theorem Cx.Ok.inExc (k : X.Ok) : (X.inExc ea).Ok := ⟨k.mod, k.kind, k.glob, k.blt, k.above, k.inj, k.has, k.cab, (λ z => (nomatch z)), k.frames, k.stk, k.exf, k.bs, k.bsz, k.noex, k.exfs, k.funs, k.frf⟩
theorem Inv.tryIn (I : Inv X (pins ++ pins') σ H s) : Inv (X.tryIn pins E) pins' σ H s :=
 ⟨I.ok.tryIn, I.os, I.bare, I.base, I.loc, I.cell, I.free, I.freeC, λ p hp => I.pin p (by have hp : p ∈ (X.pn ++ pins) ++ pins' := hp; rw [List.append_assoc] at hp; exact hp), I.hok, I.len⟩
theorem Inv.untry (I : Inv (X.tryIn pins E) pins' σ H s) : Inv X (pins ++ pins') σ H s :=
 ⟨I.ok.untry, I.os, I.bare, I.base, I.loc, I.cell, I.free, I.freeC, λ p hp => I.pin p (by show p ∈ (X.pn ++ pins) ++ pins'; rw [List.append_assoc]; exact hp), I.hok, I.len⟩
theorem Inv.inExc (I : Inv X pins σ H s) : Inv (X.inExc ea) pins σ H s := ⟨I.ok.inExc, I.os, I.bare, I.base, I.loc, I.cell, I.free, I.freeC, I.pin, I.hok, I.len⟩
theorem Inv.unExc (I : Inv (X.inExc ea) pins σ H s) (k : X.Ok) : Inv X pins σ H s := ⟨k, I.os, I.bare, I.base, I.loc, I.cell, I.free, I.freeC, I.pin, I.hok, I.len⟩
theorem Inv.track {a : Addr} {o : HO} (I : Inv X pins σ H s) (hn : H a = none) (h0 : X.s₀.heap.get? a = none) (hL : a ≠ X.env.locals) (hc : ∀ x c, X.env.cells.lookup x = some c -> c ≠ a) (hp : ∀ p ∈ X.pn ++ pins, p.1 ≠ a) (new : q1K X.prog X.w (upd H a o) s.heap a o) :
  Inv X pins σ (upd H a o) s :=
 ⟨I.ok, I.os, I.bare, I.base.track hn h0, I.loc, I.cell, by rw [q0v (Ne.symm hL)]; exact I.free, λ x c e => by rw [q0v (hc x c e)]; exact I.freeC x c e, λ p hq => by
  obtain ⟨e, n, ne, nf, d⟩ := I.pin p hq
  exact ⟨e, by rw [q0v (hp p hq)]; exact n, ne, nf, d⟩, I.hok.track hn new, I.len⟩
theorem q3d {M : Model} {A : Around} {EE : Value -> Shared -> Prop} {i : Nat} {x : Str} {pos : Pos} {Q : Unit -> Shared -> Prop} (I : Inv X pins σ H s) (hN : X.N.Nodup) (hi : X.N[i]? = some x) (hx : X.env.scope.names.lookup x = some .local)
  (h : ∀ s', Inv X pins (σ.set i none) H s' -> Q () s') : wpAny M A (do bindName X.env x .none; unbindBehindTheSuite X.env x pos) Q EE s := by
 obtain ⟨m, hn, hl⟩ := id I.loc
 have hcls : (X.env.scope.kind == .class || (X.env.scope.kind == .module && X.env.locals != X.env.globals)) = false := by rw [I.ok.kind]; rfl
 have hiσ : i < σ.length := by rw [I.len]; exact (List.getElem?_eq_some_iff.mp hi).1
 have cne := I.cne
 have tracked : ∀ {h' : Heap}, Heap.SameBut X.env.locals s.heap h' -> HOk X.prog X.w H h' := λ {h'} hs b ob e => by
  refine (I.hok b ob e).stay (λ c w' hc q => (hs.2 c ?_).trans q) (λ _ q => q) λ _ _ q => q
  rintro rfl
  rcases hc with rfl | hc
  ·rw [I.free] at e; cases e
  ·rw [I.free] at hc; cases hc
 refine wpAny_nameGoes_keeps hx hn hcls λ h' v hn' hs => ?_
 refine h _ ⟨I.ok, I.os, I.bare, ⟨λ b o e n hb hx => ?_, λ b o e n hb hx => ?_, I.base.free, λ b o e hx => ?_, I.base.tups, I.base.frzs, I.base.tbls⟩, ⟨_, hn', λ j y v' e1 e2 e3 => ?_⟩, λ y c e => ?_, I.free, I.freeC, λ p hp => ?_, tracked hs, by simpa using I.len⟩
 ·exact (hs.2 b (Nat.ne_of_lt (Nat.lt_of_lt_of_le (Heap.lt_size e) I.ok.above))).trans (I.base.keep b o e n hb hx)
 ·obtain ⟨sl, e1⟩ := I.base.slot b o e n hb hx
  exact ⟨sl, (hs.2 b (Nat.ne_of_lt (Nat.lt_of_lt_of_le (Heap.lt_size e) I.ok.above))).trans e1⟩
 ·obtain ⟨o', e1⟩ := I.base.there b o e hx
  exact ⟨o', (hs.2 b (Nat.ne_of_lt (Nat.lt_of_lt_of_le (Heap.lt_size e) I.ok.above))).trans e1⟩
 ·by_cases hj : j = i
  ·subst hj
   rw [List.getElem?_set_self hiσ] at e2
   cases e2
  ·rw [List.getElem?_set_ne (Ne.symm hj)] at e2
   obtain ⟨u', r', q⟩ := hl j y v' e1 e2 e3
   refine ⟨u', r', ?_⟩
   rcases q with ⟨k, e⟩ | ⟨k, c, e, z⟩
   ·refine .inl ⟨k, ?_⟩
    have : y ≠ x := λ e => hj (q3H hN e1 (e ▸ hi))
    simp [this, e]
   ·exact .inr ⟨k, c, e, z.sameBut hs (cne y c e)⟩
 ·obtain ⟨w', z⟩ := I.cell y c e
  exact ⟨w', z.sameBut hs (cne y c e)⟩
 ·obtain ⟨e, n, ne, nf, d⟩ := I.pin p hp
  exact ⟨(hs.2 p.1 ne).trans e, n, ne, nf, d⟩
end
noncomputable def q3v (CX : CXT) (X : Cx) (E : St -> XK) : Prop := ∀ (pins : List (Addr × Obj)) (σ : St) (H : Hp) (s : Shared) (e : Value) (s' : Shared), Inv X pins σ H s -> CX X.stack H s (E σ) e s' -> X.xe e s'
theorem q8k.s {CX : CXT} {X : Cx} {E : XK} (h : q8k CX X E) : q3v CX X λ _ => E := λ pins σ H s e s' I q => h pins σ H s e s' I q
theorem q7b {X : Cx} {pins : List (Addr × Obj)} {E : St -> Value -> Hp -> Prop} : q3v (CXx X.prog X.w X.base) (X.tryIn pins E) (λ σ C _ H => E σ C H) := by
 intro pins' σ H0 s0 e s' I hcx
 obtain ⟨ea, C, H', B, rfl, os, bare, un, F, cov, hE⟩ := hcx
 have I' : Inv (X.tryIn pins E) pins' σ H' s' := I.call' os un (F.hok.kept F.stays) bare λ b hb => nomatch hb
 have J := I'.untry
 refine ⟨ea, C, σ, H', B, rfl, J.pins_of λ p hp => J.pin p (List.mem_append_right _ (List.mem_append_left _ hp)), F, λ b o e hb hx => ?_, λ p hp => ?_, hE⟩
 ·obtain ⟨o1, e1⟩ := I.base.there b o e hx
  exact cov b o1 e1 hb
 ·obtain ⟨e, n, ne, nf, d⟩ := I.pin p (List.mem_append_left _ hp)
  exact cov p.1 p.2 e λ z => (List.mem_cons.mp (I.stkSub _ z)).elim ne nf
section
variable {X : Cx} {CX : CXT} {k : Nat} {f C : Addr} {fd : FuncData} {ps : List Str} {sp : Sp} {dvs : List V} {ds : List Value} {E : St -> XK} {x m : Str} {p pos apos : Pos} {e o : Expr} {es : List Expr} {ta : TE} {t : TA}
theorem z0G {pins : List (Addr × Obj)} {σ : St} {H : Hp} {s : Shared} {Q : VK} {us : List Value} {vs : List V} (F : FnOk X.prog X.w X.K X.mg X.base CX k f fd ps sp) (hr : Room k X.A) (hb : q2T X.K fd ps ds) (hd : Vals dvs ds) (hx : q3v CX X E)
  (I : Inv X pins σ H s) (r : Vals vs us) (h : sp (vs ++ dvs) H Q (E σ)) : wpAny (model X.prog X.w) X.A (call (.ref f) us) (EP X pins σ Q) X.xe s := by
 have r2 : Vals (vs ++ dvs) (us ++ ds) := r.append hd
 have hl : (us ++ ds).length = ps.length := by rw [← r2.length]; exact F.len _ _ _ _ h
 refine wpAny_call (codeAny_mono (F.run X.A X.stack s H ⟨us, []⟩ (us ++ ds) (vs ++ dvs) Q (E σ) hr I.env0 (hb s us I.kIn hl) r2 h) λ r s' hq => ?_)
 cases r with
 | error e => exact hx pins σ H s e s' I hq
 | ok fl =>
  cases fl with
  | ret u => exact I.after hq
  | next => exact False.elim hq
  | brk => exact False.elim hq
  | cont => exact False.elim hq
noncomputable def z2W (sp : Sp) (dvs : List V) (E : St -> XK) (t : TA) : TE := λ σ H Q => t σ H λ vs H1 => sp (vs ++ dvs) H1 Q (E σ)
theorem q4X (F : FnOk X.prog X.w X.K X.mg X.base CX k f fd ps sp) (hr : Room k X.A) (hg : Gl X x) (hm : X.mg x = some (.ref f)) (hk : PySem.W.keepIn X.K (.ref f) = true) (hb : q2T X.K fd ps ds) (hd : Vals dvs ds) (hx : q3v CX X E)
  (ha : PA X (e :: es) t) (hdb : (x == ("__debug__" : Str)) = false := by decide) (he : starEach (e :: es) X.env = (false, eval e X.env) :: starEach es X.env := by rfl) (hpl : (backTo pos (starEach es X.env)).any (·.1) = false := by rfl) :
  PE X (.Call (.Name x p) (e :: es) [] pos) (z2W sp dvs E t) := by
 intro pins s σ H Q I h
 refine wpAny_Call_Name_kw (q5h I hg hm ?_ hdb)
 refine PySem.W.callWith_K (h₀ := X.base) I.ok.mod.kin hk (thn (ha pos pins s σ H _ I h) λ us s1 ⟨vs, H1, I1, r, q⟩ => ⟨I1.kIn, ?_⟩) he hpl
 exact z0G F hr hb hd hx I1 r q
end
noncomputable def tTry (K : PySem.W.Frag) (cv : Value) (i : Nat) (tb : (St -> Value -> Hp -> Prop) -> TS) (ts : TS) : TS := λ D σ H =>
 tb (λ σ' C H' => PySem.W.exmOne K C cv = some true /\ ∀ ea, H' ea = none -> ts { nx := λ σ2 H2 => D.nx (σ2.set i none) H2, rt := D.rt, bk := λ σ2 H2 => D.bk (σ2.set i none) H2, ct := λ σ2 H2 => D.ct (σ2.set i none) H2 } (σ'.set i (some (.ref ea))) (upd H' ea (excO ea C))) D σ H
theorem z3D {X : Cx} {body suite : List Stmt} {b₀ : Stmt} {c n : Str} {np hpos pos : Pos} {i : Nat} {tb : (St -> Value -> Hp -> Prop) -> TS} {ts : TS} {cv : Value} (hst : X.stack = X.env :: X.outer) (hfr : X.env.frame = some X.env.locals) (hex : X.ex = []) (hgl : Gl X c) (hm : X.mg c = some cv)
  (hN : X.N.Nodup) (hi : X.N[i]? = some n) (hl : X.env.scope.names.lookup n = some .local) (hb : ∀ pins E, PSs (X.tryIn pins E) body (tb E)) (hs : ∀ ea, PSs (X.inExc ea) (b₀ :: suite) ts) (hd : (c == ("__debug__" : Str)) = false := by decide) :
  PS X (.Try body [.ExceptHandler (some (.Name c np)) (some n) (b₀ :: suite) hpos] [] [] pos) (tTry X.K cv i tb ts) := by
 intro pins s σ H D I h
 refine wpAny_Try_except ?_
 have un : ∀ {σ1 : St} {H1 : Hp} {s1 : Shared} {E : St -> Value -> Hp -> Prop}, Inv (X.tryIn pins E) [] σ1 H1 s1 -> Inv X pins σ1 H1 s1 := λ {σ1 H1 s1 E} J => by
  have q := J.untry
  rw [List.append_nil] at q
  exact q
 refine wpAny_mono (hb pins _ [] s σ H D (Inv.tryIn (pins' := []) (by rw [List.append_nil]; exact I)) h) (λ f s1 q => ?_) (λ e s1 q => ?_)
 ·cases f with
  | next => obtain ⟨σ1, H1, I1, q1⟩ := q; exact wpAny_execs_nil ⟨σ1, H1, un I1, q1⟩
  | brk => obtain ⟨σ1, H1, I1, q1⟩ := q; exact ⟨σ1, H1, un I1, q1⟩
  | cont => obtain ⟨σ1, H1, I1, q1⟩ := q; exact ⟨σ1, H1, un I1, q1⟩
  | ret u => obtain ⟨v, σ1, H1, I1, r1, q1⟩ := q; exact ⟨v, σ1, H1, un I1, r1, q1⟩
 ·obtain ⟨ea, C, σ1, H1, B, rfl, I1, F, cov, pc, hE, hsuite⟩ := q
  obtain ⟨a0, fl⟩ := F.fly
  have fl' : Heap.FlyingW B (X.env :: X.outer) ea C a0 s1.heap := by rw [← hst]; exact fl
  refine wpAny_looks_onW (by rw [← hst]; exact I1.ok.frames) hfr fl' λ h4 held up4 => ?_
  refine wpAny_landsW held λ h5 fl5 up5 => ?_
  have up := up4.trans up5
  have I5 : Inv X pins σ1 H1 { s1 with heap := h5 } := I1.flown (t' := s1.toks) F cov pc fl5.1 up
  have J5 : Inv (X.inExc ea) pins σ1 H1 { s1 with heap := h5 } := I5.inExc
  obtain ⟨oe, ws, hoe, hoec, hoed, hoe0⟩ := fl5.first
  refine wpAny_handleBy_cons (codeAny_handlers_test ?_) (by intro q; cases q)
  refine q5h J5 hgl hm ?_ hd
  have LT : PySem.W.Looks (model X.prog X.w) h5 (typeOf (.ref ea)) C := hoec ▸ (PySem.W.Looks.ld hoe).andThen .now
  refine (PySem.W.exm_one (M := model X.prog X.w) (K := X.K) (h := h5) J5.kIn LT hE).here ?_
  show codeAny _ _ (.handlers (.ref ea) [.ExceptHandler none (some n) (b₀ :: suite) hpos] X.env) _ _
  refine codeAny_handlers_suite_as ?_
  refine lands_againW fl5 λ h6 fl6 up6 => ?_
  have I6 : Inv X pins σ1 H1 { s1 with heap := h6 } := I1.flown (t' := s1.toks) F cov pc fl6.1 (up.trans up6)
  obtain ⟨oe6, ws6, hoe6, hoec6, hoed6, _⟩ := fl6.first
  have hn : H1 ea = none := F.untr
  have h0 : X.s₀.heap.get? ea = none := by
   cases q : X.s₀.heap.get? ea with
   | none => rfl
   | some o =>
    exfalso
    by_cases hf : ea ∈ frs X.stack
    ·obtain ⟨_, o', e', d⟩ := I6.stack.mem hf
     have e'' : h6.get? ea = some o' := e'
     rw [hoe6] at e''; cases e''
     exact d _ hoed6
    ·obtain ⟨o', z⟩ := cov ea o q hf (by rw [hex]; intro z; exact nomatch z)
     rw [F.newE] at z; cases z
  have hL : ea ≠ X.env.locals := λ z => by
   obtain ⟨m, ⟨o, es, ep, ho, hdd, _⟩, _⟩ := I6.loc
   have ho' : h6.get? ea = some o := by rw [z]; exact ho
   rw [hoe6] at ho'; cases ho'
   rw [hoed6] at hdd; cases hdd
  have hc : ∀ x c, X.env.cells.lookup x = some c -> c ≠ ea := λ x c e z => by
   obtain ⟨v, o, ho, hdd⟩ := I6.cell x c e
   have ho' : h6.get? ea = some o := by rw [← z]; exact ho
   rw [hoe6] at ho'; cases ho'
   rw [hoed6] at hdd; cases hdd
  have hp : ∀ p ∈ X.pn ++ pins, p.1 ≠ ea := λ p hp z => by
   obtain ⟨o', q⟩ := pc p hp
   rw [z, F.newE] at q; cases q
  have J6 : Inv (X.inExc ea) pins σ1 (upd H1 ea (excO ea C)) { s1 with heap := h6 } := (I6.track hn h0 hL hc hp (z1b ⟨oe6, ws6, hoe6, hoec6, hoed6⟩)).inExc
  refine q4Q (X := X.inExc ea) (i := i) (v := .ref ea) J6 hN hi (Or.inl hl) rfl (λ s7 I7 => ?_) (.inr hl)
  refine wpAny_mono (hs ea pins s7 _ _ _ I7 (hsuite ea hn)) (λ f s8 q => ?_) λ _ _ z => z.elim
  cases f with
  | next => obtain ⟨σ8, H8, I8, q8⟩ := q; exact q3d (I8.unExc I.ok) hN hi hl λ s9 I9 => ⟨_, H8, I9, q8⟩
  | brk => obtain ⟨σ8, H8, I8, q8⟩ := q; exact q3d (I8.unExc I.ok) hN hi hl λ s9 I9 => ⟨_, H8, I9, q8⟩
  | cont => obtain ⟨σ8, H8, I8, q8⟩ := q; exact q3d (I8.unExc I.ok) hN hi hl λ s9 I9 => ⟨_, H8, I9, q8⟩
  | ret u => obtain ⟨v, σ8, H8, I8, r8, q8⟩ := q; exact q3d (I8.unExc I.ok) hN hi hl λ s9 I9 => ⟨v, _, H8, I9, r8, q8⟩
theorem q9X {K : PySem.W.Frag} {h₀ : Heap} {mg : Str -> Option Value} {x : Str} {C : Addr} {bmB : List Value} {newId : String} (X : K.In h₀) (hm : mg x = some (.ref C)) (q : PySem.W.excIn K C bmB newId = true) : OwnCls x C bmB newId mg h₀ := by
 refine ⟨hm, ?_⟩
 unfold PySem.W.excIn at q
 split at q
 ·rename_i dd cd sl ho
  split at q
  ·rename_i C' bm k0 k1 k2 k3 n k5 hm hs
   simp only [Bool.and_eq_true, beq_iff_eq, Bool.not_eq_true'] at q
   obtain ⟨⟨⟨⟨⟨rfl, rfl⟩, hdel⟩, ht⟩, hok⟩, hni⟩ := q
   obtain ⟨nm, bs, mro, ns, qn, hd, sn, sub, ab, col, del⟩ := cd
   dsimp only at hm hdel hok hni
   subst hm hdel
   have hsl : sl = #[k0, k1, k2, k3, some (.builtin n), k5] := by
    obtain ⟨l⟩ := sl
    simp only at hs
    rw [hs]
   subst hsl
   exact ⟨bm, ns, nm, qn, bs, hd, sn, sub, ab, col, dd, k0, k1, k2, k3, k5, _, X _ _ ho, .of_isNs (PySem.W.isNs_of_in X hok), PySem.W.nsMap_none_of_in X hok hni, PySem.W.tail_of_in X ht⟩
  ·cases q
 ·cases q
noncomputable def q3M (X : Cx) (E : St -> XK) : Prop := ∀ (pins : List (Addr × Obj)) (σ : St) (H : Hp) (s : Shared) (h' : Heap) (ea : Addr) (C : Value) (vs : List Value), Inv X pins σ H s -> Heap.MadeExcOf s.heap h' ea C vs -> E σ C none H -> X.xe (.ref ea) { s with heap := h' }
theorem q4v {P : Program} {w : World} {K : PySem.W.Frag} {mg : Str -> Option Value} {base : Heap} {N : List Str} {qual : Str} {scope : Scope} {f : Addr} {cd : Value} {A : Around} {outer : List Env} {s : Shared} {H : Hp} {E : XK} :
  q3M (cxD P w K mg base N qual scope f cd A outer s H E) λ _ => E := λ pins σ H1 s1 h' ea C vs I hx hE => q5U I hx hE
noncomputable def z3s (C : Addr) (E : St -> XK) (t : TA) : TS := λ _ σ H => t σ H λ vs H1 => vs.length <= sizeLine /\ E σ (.ref C) none H1
theorem q9V {X : Cx} {x : Str} {C : Addr} {bmB : List Value} {B newId initId : String} {np cpos pos : Pos} {e₀ : Expr} {rest : List Expr} {t : TA} {E : St -> XK} (FB : ExcBaseFacts B newId initId bmB) (hc : X.calm = true) (hg : Gl X x) (hm : X.mg x = some (.ref C)) (hx : PySem.W.excIn X.K C bmB newId = true)
  (hR : q3M X E) (ha : PA X (e₀ :: rest) t) (hd : (x == ("__debug__" : Str)) = false := by decide) (he : starEach (e₀ :: rest) X.env = (false, eval e₀ X.env) :: starEach rest X.env := by rfl) (hpl : (backTo cpos (starEach rest X.env)).any (·.1) = false := by rfl) :
  PS X (.Raise (some (.Call (.Name x np) (e₀ :: rest) [] cpos)) none pos) (z3s C E t) := by
 intro pins s σ H D I h
 obtain ⟨tl, N, nm, q, bs, hdct, sn, sub, ab, col, dd, k0, k1, k2, k3, k5, mN, hC, hN, hni, T⟩ := (q9X I.mod.kin hm hx).obj
 refine wpAny_Raise_call_subT (C := C) (nm := nm) (q := q) (N := N) (bs := bs) (bm := tl) (hdct := hdct) (sn := sn) (sub := sub) (ab := ab) (col := col) (dd := dd) (k0 := k0) (k1 := k1) (k2 := k2) (k3 := k3) (k5 := k5)
  FB (mN := mN) (T.hasType FB.hasBase) (I.ok.hd hc) (by rw [he]; show (false || (backTo cpos (starEach rest X.env)).any (·.1)) = false; rw [hpl]; rfl) hni (q5h I hg hm ⟨rfl, ?_⟩ hd)
 have hq := ha cpos pins s σ H _ I h
 rw [he] at hq ⊢
 exact Calls.evalArgs_plain (thn hq λ vs s₂ ⟨xs, H2, I2, r2, hl, hE⟩ => ⟨rfl, by show vs.length <= sizeLine; rw [← r2.length]; exact hl, I2.bk _ _ hC, hN.keeps I2.bk, T.keeps I2.bk, λ h' e hm' => hR pins σ H2 s₂ h' e _ _ I2 hm' hE⟩)
end L2
end
section
namespace L2
open PySem PySem.W PySem.Spec PySem.Calls PyProof.Rows PySem.Builtin PySem.Builtin.ObjectAttr PySem.Builtin.Getset_descriptor
noncomputable def q5P (x D : Addr) (h : Heap) : Prop := ∃ o, h.get? x = some o /\ o.cls = .ref D
section
variable {prog : Program} {w : World} {K : Frag} {x D : Addr} {M : Model} {h : Heap}
theorem q5P.ty (p : q5P x D h) : Looks M h (typeOf (.ref x)) (.ref D) := by
 obtain ⟨o, e, c⟩ := p
 exact c ▸ (Looks.ld e).andThen .now
theorem q8j {a g : Value} {n : Str} (X : K.In h) (h1 : findIn K (.ref D) n = some (some a)) (h2 : specialIn K a "__get__" = some (some g)) (h3 : takesIn K a = some true) : Looks M h (find (.ref x) (.ref D) n) (.bind g a) := by
 have T : Looks M h (dataDescriptor? (some a) (some g)) (some (g, a)) := (looks_takesIn X h3).andThen .now
 exact (looks_findIn X h1).andThen ((show Looks M h (getOf (some a)) (some g) from looks_specialIn X h2).andThen (T.andThen (Looks.tag .now)))
structure ClsK (K : Frag) (D : Addr) : Prop where
 ga : findIn K (.ref D) "__getattribute__" = some (some (.builtin "BaseException.__getattribute__"))
 gt : findIn K (.ref D) "__getattr__" = some none
 mb : mroIn K D (.type "BaseException") = some true
 hd : hasDictIn K D = true
 fc : findIn K (.ref D) "__class__" = some (some (.builtin "object.__class__"))
 sg : specialIn K (.builtin "object.__class__") "__get__" = some (some (.builtin "getset_descriptor.__get__"))
 tk : takesIn K (.builtin "object.__class__") = some true
 mo : mroIn K D (.type "object") = some true
variable {A : Around} {E : Value -> Shared -> Prop} {s : Shared}
theorem z2d {tp : Value} {R : Result -> Shared -> Prop} (X : K.In s.heap) (p : q5P x D s.heap) (hm : mroIn K D (.type "object") = some true) (q : R (.ok (.ret (.ref D))) s) :
  codeAny (model prog w) A (.call (.builtin "getset_descriptor.__get__") ⟨[.builtin "object.__class__", .ref x, tp], []⟩) R s := by
 obtain ⟨h0, g0, d0, t0, o0⟩ := s
 have T0 := p.ty (M := model prog w)
 have T1 := looks_mroIn (M := model prog w) X hm
 refine codeAny_call_builtin KF.slot_gs.plain KF.entry_gs (KF.slot_gs.check _ _ _ _ _ _ _ _ KF.type_class (KF.args_gs _ _ _) ?_)
 unfold Builtin.«getset_descriptor.__get__»
 unfold descrGet
 rw [dga_obj]
 refine wpAny_bind (wpAny_pure ?_)
 unfold descrGetter
 unfold descrCheckInstance
 unfold descrNameAndClass
 unfold isInstance
 simp only [KF.owner_class]
 repeat lk
 refine ⟨Code.quiet_builtin _ (by decide +kernel), codeAny_builtin KF.entry_class ?_⟩
 unfold Builtin.«object.__class__»
 unfold shownTypeOf
 repeat lk
 exact q
theorem q9i {nm : Value} {Q : Unit -> Shared -> Prop} (C : ClsK K D) (X : K.In s.heap) (p : q5P x D s.heap) (q : Q () s) : wpAny (model prog w) A (checkBuiltinCall "BaseException.__getattribute__" ⟨[.ref x, nm], []⟩) Q E s := by
 obtain ⟨h0, g0, d0, t0, o0⟩ := s
 have k1 : builtinKind "BaseException.__getattribute__" = some .slot := by decide +kernel
 have k2 : splitId "BaseException.__getattribute__" = some ("BaseException", "__getattribute__") := by decide +kernel
 have T0 := p.ty (M := model prog w)
 have T1 := looks_mroIn (M := model prog w) X C.mb
 have ha := F.args_bexc_ga (.ref x) nm
 simp only [checkBuiltinCall, k1, k2]
 refine wpAny_bind ((show Looks (model prog w) _ (isInstance (.ref x) (.type "BaseException")) true from T0.andThen T1).at ?_)
 repeat (any_goals (first | assumption | wp_step))
theorem q7M {tk : Tok} {Q : Fin -> Shared -> Prop} (C : ClsK K D) (X : K.In s.heap) (p : q5P x D s.heap) (q : Q (.done (.ret (.ref D))) s) : wpAny (model prog w) A (Builtin.«object.__getattribute__» ⟨[.ref x, .str "__class__" tk], []⟩) Q E s := by
 obtain ⟨h0, g0, d0, t0, o0⟩ := s
 have T0 := p.ty (M := model prog w)
 have T3 := q8j (M := model prog w) (x := x) X C.fc C.sg C.tk
 unfold Builtin.«object.__getattribute__»
 repeat (any_goals (first | assumption | with_reducible refine T0.at ?_ | with_reducible refine T3.at ?_ | wp_step))
 refine z2d X p C.mo ?_
 repeat (any_goals (first | assumption | wp_step))
theorem q9C {Q : Option Value -> Shared -> Prop} (C : ClsK K D) (X : K.In s.heap) (p : q5P x D s.heap) (q : Q (some (.ref D)) { s with toks := s.toks + 1 }) : wpAny (model prog w) A (getAttr? (.ref x) "__class__") Q E s := by
 obtain ⟨h0, g0, d0, t0, o0⟩ := s
 have T0 := p.ty (M := model prog w)
 have T1 := looks_findIn (M := model prog w) X C.ga
 have T2 := looks_findIn (M := model prog w) X C.gt
 have f3 := F.attr_ValueError.ga.bind (.ref x)
 unfold getAttr?
 unfold getAttrBy?
 unfold getAttrBy
 refine wpAny_bind (wpAny_mkText (wpAny_bind (wpAny_attempt (wpAny_holding (wpAny_bind (T0.at (wpAny_bind (T1.at ?_))))))))
 dsimp only
 have ne : (onTheHeap (Value.ref D) && Value.builtin "BaseException.__getattribute__" == Value.builtin "object.__getattribute__") = false := by
  rw [show (Value.builtin "BaseException.__getattribute__" == Value.builtin "object.__getattribute__") = false by decide +kernel, Bool.and_false]
 rw [if_neg (by rw [ne]; exact Bool.false_ne_true)]
 unfold getAttrByItsOwn
 unfold hookBefore
 rw [if_pos (show onTheHeap (Value.ref D) = true from rfl)]
 refine wpAny_bind (T2.at ?_)
 refine wpAny_bind (wpAny_attempt (wpAny_holding ?_))
 unfold callGetattribute
 rw [if_neg (by decide)]
 repeat (any_goals (first | assumption | wp_step))
 refine codeAny_call_builtin F.attr_ValueError.ga.plain F.entry_bexc_ga (q9i C X p (q7M C X p ?_))
 exact handed_on rfl (wpAny_pure q)
theorem z0Q (C : ClsK K D) : KitX K (.ref x) (.ref D) (q5P x D) where
 ty := λ _ _ _ p => p.ty
 it := λ M h X _ => by
  obtain ⟨cd, e, _⟩ := any_some C.hd
  unfold clsIn at e
  split at e
  ·rename_i ho
   intro A1 Q1 E1 s1 k1 q1
   unfold isType
   unfold loadHead
   exact wpAny_bind (wpAny_loadPart (k1 _ _ (X _ _ ho)) (wpAny_pure q1))
  ·cases e
 ne := λ h tp dd its n sl X e2 => by
  obtain ⟨cd, e, _⟩ := any_some C.hd
  rw [Bool.eq_false_iff]
  intro z
  have e1 : D = tp := Value.ref.inj (beq_iff_eq.mp z)
  subst e1
  unfold clsIn at e
  split at e
  ·rename_i ho
   cases (X _ _ ho).symm.trans e2
  ·cases e
 ca := λ X p k => q9C C X p k
theorem z0K {c : Value} {b : Bool} {Q : Value -> Shared -> Prop} (C : ClsK K D) (X : K.In s.heap) (p : q5P x D s.heap) (e : kitOne K (.ref D) c = some b) (q : ∀ tk, Q (.bool b) { s with toks := tk }) : wpAny (model prog w) A (call (.builtin "isinstance") [.ref x, c]) Q E s :=
 kia_one (z0Q C) X p e (λ z => nomatch z) q
end
end L2
end
section
namespace L2
open PySem PySem.Spec PyProof.Rows
structure Src (P : Program) (w : World) (ia la : Addr) (vs : Array Value) (S : Nat -> Heap -> Prop) : Prop where
 keep : ∀ k h h', S k h -> (∀ o, h.get? ia = some o -> h'.get? ia = some o) -> (∀ o, h.get? la = some o -> h'.get? la = some o) -> S k h'
 there : ∀ k h, S k h -> ∃ o xs, h.get? ia = some o /\ o.data = .fields xs
 step : ∀ {A : Around} {E : Value -> Shared -> Prop} {s : Shared} {Q : Value -> Shared -> Prop} (k : Nat) (x : Value), S k s.heap -> vs[k]? = some x -> (∀ h', S (k + 1) h' -> Heap.SameBut ia s.heap h' -> Q x { s with heap := h' }) ->
  wpAny (model P w) A (Builtin.SmallTypes.nextOf (.ref ia)) Q E s
 stop : ∀ {A : Around} {E : Value -> Shared -> Prop} {s : Shared} {Q : Value -> Shared -> Prop} (k : Nat), A.handled = none -> S k s.heap -> vs[k]? = none ->
  (∀ h' e, Heap.ExtBut ia s.heap h' -> (∃ o, h'.get? e = some o /\ o.cls = .type "StopIteration") -> E (.ref e) { s with heap := h' }) -> wpAny (model P w) A (Builtin.SmallTypes.nextOf (.ref ia)) Q E s
section
variable {P : Program} {w : World} {A : Around} {E : Value -> Shared -> Prop} {s : Shared}
variable {Z U W a b l1 l2 : Addr} {k : Nat} {vs1 vs2 : Array Value} {S1 S2 : Nat -> Heap -> Prop} {x y c d : Value}
end
end L2
end
section
namespace PySem
section
variable {prog : Program} {w : World} {A : Around} {E : Value -> Shared -> Prop} {s : Shared}
theorem q2O (a b : Int) : Builtin.Range.rangeSize a b (-1) = if b < a then a - b else 0 := by
 unfold Builtin.Range.rangeSize
 simp
theorem q7j {a b : Int} (ha : -(2 ^ 62) <= a) (ha' : a < 2 ^ 62) (hb : -(2 ^ 62) <= b) (hb' : b < 2 ^ 62) : Builtin.Range.small a b (-1) = true := by
 unfold Builtin.Range.small
 rw [q2O]
 simp only [Builtin.Range.rangeFitsLong, Bool.and_eq_true, Bool.or_eq_true, decide_eq_true_eq, beq_iff_eq, show ¬ ((-1 : Int) > 0) by decide, if_false]
 split <;> omega
end
end PySem
namespace L2
open PySem PySem.Spec PyProof.Rows
variable {X : Cx} {tg : Expr}
noncomputable def Itd (hi : Int) (n : Nat) : It := ⟨λ i _ => i < n, λ i H x H' => H' = H /\ x = .int (hi - i), λ i _ => n <= i⟩
theorem q8x {P : Program} {w : World} {K : PySem.W.Frag} {tg : Expr} (it : Addr) (hi : Int) (n : Nat) : Turn P w K tg (Itd hi n) [it] it (λ i h => IsRangeIter h it (hi + (i : Nat) * (-1)) ((n : Int) - (i : Nat)) (-1)) where
 mem := by simp
 obj := λ i h st b hb => by
  have e : b = it := by simpa using hb
  subst e
  exact ⟨_, st, λ v z => by
   have z' : Data.fields _ = Data.cell v := z
   cases z'⟩
 keep := λ i h h' st k => k it (by simp) _ st
 item := by
  intro X hP hw hK hc i pins s σ H E I hf st hg
  subst hP hw hK
  obtain ⟨f0, f1, f2, f3, f4, f5⟩ := hf it (by simp)
  have W := Walks.range (prog := X.prog) (w := X.w) (I.ok.hd hc) it hi (-1) n
  refine W.item i s _ _ hg st λ v h' tk hv st' kk => ?_
  obtain ⟨t, rfl⟩ := hv
  have I1 : Inv X pins σ H { s with heap := h', toks := tk } := I.turned (λ b o hb e => kk b o (by simpa using hb) e) f0 f1 f3 f4 f5
  refine ⟨_, rfl, q9N (s := { s with heap := h', toks := tk }) (n := "range_iterator") st' rfl rfl (by decide) ⟨.int (hi - i), H, I1, ⟨t, ?_⟩, ⟨rfl, rfl⟩, st', λ b hb => (hf b hb).1⟩⟩
  rw [show hi + (i : Int) * (-1) = hi - i by omega]
 done := by
  intro X hP hw hK hc i pins s σ H E I hf st hg
  subst hP hw hK
  obtain ⟨f0, f1, f2, f3, f4, f5⟩ := hf it (by simp)
  exact wpAny_pyNext_range_end (I.ok.hd hc) st (by have : n <= i := hg; omega) λ h' eb => ⟨rfl, I.turned (t' := s.toks) (λ b o hb e => eb b o hb e) f0 f1 f3 f4 f5⟩
 self := λ _ _ _ _ _ st h => wpAny_pyIter_rangeiter st h
theorem z1q {pins : List (Addr × Obj)} {σ : St} {H : Hp} {s : Shared} {R : It -> Hp -> Prop} {E : Value -> Shared -> Prop} {lo hi : Int} {t u v : Tok} {tk : Nat} (I : Inv X pins σ H s) (h1 : -(2 ^ 62) <= lo) (h2 : lo < 2 ^ 62) (h3 : -(2 ^ 62) <= hi) (h4 : hi < 2 ^ 62)
  (q : R (Itd lo (lo - hi).toNat) H) : wpAny (model X.prog X.w) X.A (pyIter (.ref s.heap.objs.size)) (PIE X pins σ tg R) E { s with heap := s.heap.push { cls := .type "range", data := .fields #[.int lo t, .int hi u, .int (-1) v] }, toks := tk } := by
 refine wpAny_pyIter_range (IsRange.new ..) (q7j h1 h2 h3 h4) ?_
 have I1 : Inv X pins σ H { s with heap := s.heap.push { cls := .type "range", data := .fields #[.int lo t, .int hi u, .int (-1) v] }, toks := tk } := I.kept λ b o e => Heap.get?_push_of_some _ e
 refine ⟨(s.heap.push { cls := .type "range", data := .fields #[.int lo t, .int hi u, .int (-1) v] }).objs.size, [(s.heap.push { cls := .type "range", data := .fields #[.int lo t, .int hi u, .int (-1) v] }).objs.size], _, _, H, rfl,
  I1.kept (t' := tk) λ b o e => Heap.get?_push_of_some _ e, q8x _ lo (lo - hi).toNat, ?_, λ b hb => ?_, q⟩
 ·have e1 : lo + ((0 : Nat) : Int) * (-1) = lo := by simp
  have e2 : (((lo - hi).toNat : Nat) : Int) - ((0 : Nat) : Int) = Builtin.Range.rangeSize lo hi (-1) := by rw [q2O]; split <;> omega
  show IsRangeIter _ _ (lo + ((0 : Nat) : Int) * (-1)) ((((lo - hi).toNat : Nat) : Int) - ((0 : Nat) : Int)) (-1)
  rw [e1, e2]
  exact Heap.get?_push_size _ rfl
 ·have e : b = (s.heap.push { cls := .type "range", data := .fields #[.int lo t, .int hi u, .int (-1) v] }).objs.size := by simpa using hb
  subst e
  exact I1.fpOk (Nat.le_refl _) (I1.hok.fresh (Nat.le_refl _))
noncomputable def z3U (ta : TA) : TI := λ σ H R => ta σ H λ vs H1 => ∃ i j : Int, vs = [.int i, .int j, .int (-1)] /\ (-(2 ^ 62) <= i /\ i < 2 ^ 62 /\ -(2 ^ 62) <= j /\ j < 2 ^ 62) /\ R (Itd i (i - j).toNat) H1
theorem noPl (a : Int) : Builtin.divisionGoesByPylong a (-1) = false := PyProof.noPylong_small (by omega)
theorem q7K {a b c : Expr} {ta : TA} {p pos : Pos} (hg : Gl X "range") (hm : X.mg "range" = none) (ha : PA X [a, b, c] ta) (hs : starEach [a, b, c] X.env = [(false, eval a X.env), (false, eval b X.env), (false, eval c X.env)]) (hs2 : starEach [b, c] X.env = [(false, eval b X.env), (false, eval c X.env)]) :
  PI X tg (.Call (.Name "range" p) [a, b, c] [] pos) (z3U ta) := by
 intro pins s σ H R I h
 refine Call_ (q4K I hg hm boot_range (PyProof.Rows.callWith_type1 (thn (ha pos pins s σ H _ I h) λ us s1 ⟨vs, H1, I1, r1, q1⟩ => ?_) (by rw [hs, hs2]) (by rw [hs2]; rfl)))
 obtain ⟨i, j, e, ⟨q1, q2, q3, q4⟩, q⟩ := q1
 subst e
 cases r1 with
 | cons r rr =>
  cases rr with
  | cons r' rr =>
   cases rr with
   | cons r'' rr =>
    cases rr
    obtain ⟨t, rfl⟩ := r
    obtain ⟨t', rfl⟩ := r'
    obtain ⟨t'', rfl⟩ := r''
    exact call_range_3 (by decide) (z1q I1 q1 q2 q3 q4 q) (Or.inl (noPl _))
end L2
end
section
namespace L2
open PySem
inductive DKey where
 | i (n : Int) | s (x : Str) | t (l : List (Sum Int Str))
 deriving DecidableEq
inductive DV where
 | non | bl (b : Bool) | int (i : Int) | str (x : Str) | tup (ds : List DV) | lst (ds : List DV) | dct (ks : List DKey) (vs : List DV)
 | exc (c : Str) | fn (x : Str)
 | scr (ns : List Int)
inductive Cl where
 | weak | top | strong | fresh | ft
 deriving DecidableEq
inductive Re where
 | ok (d : DV) (c : Cl) | ex (c : Str)
inductive Rs where
 | ok (l : List (DV × Cl)) | ex (c : Str)
inductive Rt where
 | ok (b : Bool) | ex (c : Str)
inductive Sv where
 | no | val (d : DV) | own (d : DV) | ot (d : DV)
 | o2 (d : DV)
inductive Ou where
 | v (d : DV) (fr : Bool) | x (c : Str) | t (d : DV)
inductive Out where
 | nx (δ : List Sv) | rt (d : DV) (fr : Bool) | ex (c : Str) (δ : List Sv) | rtt (d : DV)
inductive Bi where
 | len | abs | min | max | sum | any | all | sorted | sset | lset | int | list | tuple | str | lrng | lsti
 deriving DecidableEq
inductive Mt where
 | bitLength | index | get
 deriving DecidableEq
inductive Tg where
 | one (i : Nat) | many (is : List Nat)
inductive ME where
 | var (i : Nat) | int (i : Int) | bl (b : Bool) | str (x : Str) | non | glb (x : Str)
 | bin (op : Operator) (a b : ME) | neg (a : ME)  | not (a : ME)
 | cmp (op : CmpOp) (a b : ME) | chain (op op' : CmpOp) (a b c : ME)
 | and (es : List ME) | or (es : List ME)
 | lst (es : List ME) | tup (es : List ME)  | dc0
 | ix (a b : ME)  | slf (a lo : ME)
 | call (f : Nat) (es : List ME)   | bi (f : Bi) (es : List ME) | isi (a : ME) (ts : List Str) | isx (a : ME) (t : Str)
 | comp (elt : ME) (tg : Tg) (it : ME) (fr : List (Option Nat)) | compi (elt : ME) (tg : Tg) (it c : ME) (fr : List (Option Nat))
 | rng (es : List ME)
inductive MS where
 | set (i : Nat) (own : Bool) (e : ME) | sett (is : List Nat) (e : ME)
 | app (i : Nat) (e : ME)  | seti (i : Nat) (k e : ME)
 | exp (e : ME) | ret (e : ME)  | iff (c : ME) (a b : List MS) | fo (tg : Tg) (it : ME) (body : List MS)
 | rhg (i : Nat) (e : ME)
 | rse (c : Str) (e : ME) | tryc (body : List MS) (c : Str) (ie ic : Nat)
 | frz (i : Nat)
structure FD where
 n : Nat
 np : Nat
 dfl : List DV := []
 kn : Option Str := none
 body : List MS
noncomputable def Re.thn (r : Option Re) (k : DV -> Cl -> Option Re) : Option Re := match r with
 | none => none
 | some (.ex c) => some (.ex c)
 | some (.ok d c) => k d c
noncomputable def Rs.thn (r : Option Rs) (k : List (DV × Cl) -> Option Re) : Option Re := match r with
 | none => none
 | some (.ex c) => some (.ex c)
 | some (.ok l) => k l
noncomputable def Re.thnT (r : Option Re) (k : DV -> Cl -> Option Rt) : Option Rt := match r with
 | none => none
 | some (.ex c) => some (.ex c)
 | some (.ok d c) => k d c
mutual
noncomputable def DV.immut : DV -> Bool
 | .non => true | .bl _ => true | .int _ => true | .str _ => true | .exc _ => true | .fn _ => true | .scr _ => true
 | .tup ds => DV.immuts ds
 | .lst _ => false | .dct _ _ => false
noncomputable def DV.immuts : List DV -> Bool
 | [] => true
 | d :: r => d.immut && DV.immuts r
end
noncomputable def stro (d : DV) : Cl -> Bool
 | .strong => true | .fresh => true | .ft => true | _ => d.immut
noncomputable def stros (l : List (DV × Cl)) : Bool := l.all λ p => stro p.1 p.2
noncomputable def Cl.item : Cl -> Cl
 | .weak => .weak | _ => .strong
noncomputable def Cl.anew : Cl -> Cl -> Cl
 | .weak, _ => .weak | _, .weak => .weak | _, _ => .fresh
noncomputable def mostLen : Nat := 1000000
mutual
noncomputable def deq : DV -> DV -> Bool
 | .non, .non => true
 | .bl a, .bl b => a == b
 | .bl a, .int j => (if a then 1 else 0) == j
 | .int i, .bl b => i == (if b then 1 else 0)
 | .int i, .int j => i == j
 | .str a, .str b => decide (a = b)
 | .tup a, .tup b => deqs a b
 | .lst a, .lst b => deqs a b
 | _, _ => false
noncomputable def deqs : List DV -> List DV -> Bool
 | [], [] => true
 | a :: r, b :: s => deq a b && deqs r s
 | _, _ => false
end
mutual
noncomputable def DV.plain : Nat -> DV -> Bool
 | _, .non => true | _, .bl _ => true | _, .int _ => true
 | _, .str x => x.cps.all (· < 0x110000)
 | 0, _ => false
 | n + 1, .tup ds => DV.plains n ds | n + 1, .lst ds => DV.plains n ds
 | _, _ => false
noncomputable def DV.plains : Nat -> List DV -> Bool
 | _, [] => true
 | n, d :: r => d.plain n && DV.plains n r
end
noncomputable def q2i : DV -> Option Bool
 | .non => some false
 | .bl b => some b
 | .int i => some (i != 0)
 | .str x => some (x.cps.size != 0)
 | .tup ds => some (!ds.isEmpty)
 | .lst ds => some (!ds.isEmpty)
 | _ => none
noncomputable def q2Y (n : Nat) (i : Int) : Option Nat := if 0 <= i then (if i < n then some i.toNat else none) else if -(n : Int) <= i then some (i + n).toNat else none
noncomputable def atD (ds : List DV) (i : Int) : Option DV := (q2Y ds.length i).bind λ j => ds[j]?
noncomputable def ixD (a b : DV) : Option DV := match a, b with
 | .scr ns, .int i => ((q2Y ns.length i).bind λ j => ns[j]?).map DV.int
 | .lst ds, .int i => atD ds i
 | .tup ds, .int i => atD ds i
 | .str z, .int i => (q2Y z.cps.size i).bind λ j => (z.cps[j]?).map λ c => .str ⟨#[c]⟩
 | _, _ => none
noncomputable def slIx (n d : Nat) : Option Int -> Nat
 | none => d
 | some v => if v < 0 then (v + (n : Int)).toNat else min v.toNat n
noncomputable def cutD (ds : List DV) (lo hi : Option Int) : List DV := (ds.drop (slIx ds.length 0 lo)).take (slIx ds.length ds.length hi - slIx ds.length 0 lo)
noncomputable def slD (a : DV) (lo hi : Option Int) : Option DV := match a with
 | .scr ns => some (.lst (cutD (ns.map DV.int) lo hi))
 | .lst ds => some (.lst (cutD ds lo hi))
 | .tup ds => if slIx ds.length 0 lo = 0 /\ slIx ds.length ds.length hi = ds.length then none else some (.tup (cutD ds lo hi))
 | _ => none
noncomputable def slCl (a : DV) (c : Cl) : Cl := match a with
 | .scr _ => .fresh
 | .lst _ => Cl.anew c c
 | _ => c.item
noncomputable def q4S (i j : Int) : Bool := (decide (-(2 ^ 64) < i) && decide (i < 2 ^ 64)) || (decide (-(2 ^ 64) < j) && decide (j < 2 ^ 64)) || (decide (i.natAbs < 2 ^ 200) && decide (j.natAbs < 2 ^ 200))
noncomputable def binD (op : Operator) (a b : DV) (ca cb : Cl) : Option Re := match op, a, b with
 | .Add, .int i, .int j => some (.ok (.int (i + j)) .strong)
 | .Sub, .int i, .int j => some (.ok (.int (i - j)) .strong)
 | .Mult, .int i, .int j => if q4S i j then some (.ok (.int (i * j)) .strong) else none
 | .Mod, .int i, .int j => if 0 < j then some (.ok (.int (i % j)) .strong) else none
 | .FloorDiv, .int i, .int j => if 0 < j /\ j < 2 ^ 200 then some (.ok (.int (i / j)) .strong) else none
 | .Add, .lst x, .lst y => if x.length + y.length <= mostLen then some (.ok (.lst (x ++ y)) (Cl.anew ca cb)) else none
 | .Mult, .lst x, .int k => if x.length * k.toNat <= mostLen /\ -(2 ^ 63) <= k /\ k < 2 ^ 63 then some (.ok (.lst (List.replicate k.toNat x).flatten) (Cl.anew ca ca)) else none
 | _, _, _ => none
noncomputable def isN : DV -> Bool
 | .non => true
 | _ => false
noncomputable def cmpD (op : CmpOp) (a b : DV) : Option Bool := match op, a, b with
 | .Lt, .int i, .int j => some (decide (i < j))
 | .LtE, .int i, .int j => some (decide (i <= j))
 | .Gt, .int i, .int j => some (decide (j < i))
 | .Eq, a, b => if a.plain 60 && b.plain 60 then some (deq a b) else none
 | .NotEq, a, b => if a.plain 60 && b.plain 60 then some (!deq a b) else none
 | .Is, a, .non => some (isN a)
 | _, _, _ => none
noncomputable def ints? : List DV -> Option (List Int)
 | [] => some []
 | .int i :: r => (ints? r).map (i :: ·)
 | _ => none
noncomputable def minI : Int -> List Int -> Int
 | m, [] => m
 | m, x :: r => minI (if x < m then x else m) r
noncomputable def maxI : Int -> List Int -> Int
 | m, [] => m
 | m, x :: r => maxI (if m < x then x else m) r
noncomputable def dk (σ : List Int) (k : Int) : List Int := if k ∈ σ then σ else σ ++ [k]
noncomputable def lenD : List (DV × Cl) -> Option Re
 | [(.lst ds, _)] => some (.ok (.int ds.length) .strong)
 | [(.tup ds, _)] => some (.ok (.int ds.length) .strong)
 | [(.scr ns, _)] => some (.ok (.int ns.length) .strong)
 | [(.str z, _)] => some (.ok (.int z.length) .strong)
 | _ => none
noncomputable def trips? : List DV -> Option (List (Int × Int × Int))
 | [] => some []
 | .tup [.int a, .int b, .int c] :: r => (trips? r).map ((a, b, c) :: ·)
 | _ => none
noncomputable def ltT (p q : Int × Int × Int) : Bool := decide (p.1 < q.1) || (p.1 == q.1 && (decide (p.2.1 < q.2.1) || (p.2.1 == q.2.1 && decide (p.2.2 < q.2.2))))
noncomputable def q5e : Int × Int × Int -> List (Int × Int × Int) -> Int × Int × Int
 | m, [] => m
 | m, x :: r => q5e (if ltT x m then x else m) r
noncomputable def trD (p : Int × Int × Int) : DV := .tup [.int p.1, .int p.2.1, .int p.2.2]
noncomputable def minD : List (DV × Cl) -> Option Re
 | [(.int i, _), (.int j, _)] => some (.ok (.int (if j < i then j else i)) .strong)
 | [(.lst ds, c)] => match ints? ds with
  | some (n :: r) => some (.ok (.int (minI n r)) .strong)
  | _ => match trips? ds with
   | some (n :: r) => some (.ok (trD (q5e n r)) c.item)
   | _ => none
 | [(.tup ds, _)] => match ints? ds with
  | some (n :: r) => some (.ok (.int (minI n r)) .strong)
  | _ => none
 | _ => none
noncomputable def maxD : List (DV × Cl) -> Option Re
 | [(.int i, _), (.int j, _)] => some (.ok (.int (if j > i then j else i)) .strong)
 | [(.lst ds, _)] => match ints? ds with
  | some (n :: r) => some (.ok (.int (maxI n r)) .strong)
  | _ => none
 | _ => none
noncomputable def q8U : List (DV × Cl) -> Option Re
 | [(.scr ns, _)] => some (.ok (.lst (ns.map DV.int)) .fresh)
 | [(.lst ds, c)] => some (.ok (.lst ds) (Cl.anew c c))
 | [(.tup ds, c)] => some (.ok (.lst ds) (Cl.anew c c))
 | _ => none
noncomputable def q5R : List (DV × Cl) -> Option Re
 | [(.lst ds, c)] => some (.ok (.tup ds) c.item)
 | [(.tup ds, c)] => some (.ok (.tup ds) c)
 | _ => none
noncomputable def biD (f : Bi) (l : List (DV × Cl)) : Option Re := match f with
 | .len => lenD l
 | .min => minD l
 | .max => maxD l
 | .list => q8U l
 | .tuple => q5R l
 | _ => none
noncomputable def biOk : Bi -> Bool
 | .len => true | .min => true | .max => true | .list => true | .tuple => true
 | _ => false
structure Gs where
 dcs : List (Str × List (Str × Str)) := []
 con : List (Str × DV)
 cls : List (Str × List Str)
 dfl : List (Nat × List DV) := []
 kws : List (Nat × Str) := []
 hun : Bool := false
noncomputable def q1I (G : Gs) (c c' : Str) : Bool := c == c' || ((G.cls.lookup c).getD []).contains c'
noncomputable def isxD (G : Gs) (d : DV) (t : Str) : Option Bool := match d with
 | .exc c => if (G.cls.lookup c).isSome then some (q1I G c t) else none
 | _ => none
noncomputable def tyOf : DV -> List Str
 | .non => ["NoneType"]
 | .bl _ => ["bool", "int"]
 | .int _ => ["int"]
 | .str _ => ["str"]
 | .tup _ => ["tuple"]
 | .lst _ => ["list"]
 | .dct _ _ => ["dict"]
 | _ => []
noncomputable def q1p : List Str := ["int", "bool", "str", "list", "tuple", "dict"]
noncomputable def isiD (G : Gs) (d : DV) (ts : List Str) : Option Bool := match d with
 | .scr _ => none
 | .exc _ => none
 | .fn _ => none
 | d => match ts with
  | [t] => if q1p.contains t then some ((tyOf d).contains t) else none
  | [t, u] => if q1p.contains t && q1p.contains u then some ((tyOf d).contains t || (tyOf d).contains u) else none
  | _ => none
noncomputable def upTo (lo : Int) (n : Nat) : List DV := (List.range n).map λ (i : Nat) => DV.int (lo + i)
noncomputable def q4w (lo : Int) (n : Nat) : List DV := (List.range n).map λ (i : Nat) => DV.int (lo - i)
noncomputable def q1t (i : Int) : Bool := decide (-(2 ^ 62) <= i) && decide (i < 2 ^ 62)
noncomputable def rngD (l : List (DV × Cl)) : Option (List DV) := match l with
 | [(.int j, _)] => if q1t j && decide (j <= mostLen) then some (upTo 0 j.toNat) else none
 | [(.int i, _), (.int j, _)] => if q1t i && q1t j && decide (j - i <= mostLen) then some (upTo i (j - i).toNat) else none
 | [(.int i, _), (.int j, _), (.int k, _)] => if q1t i && q1t j && decide (i - j <= mostLen) && decide (k = -1) then some (q4w i (i - j).toNat) else none
 | _ => none
noncomputable def q6Z : DV -> Option (Bool × List DV)
 | .lst ds => some (false, ds)
 | .tup ds => some (true, ds)
 | _ => none
noncomputable def seqD : DV -> Option (List DV)
 | .scr ns => some (ns.map DV.int)
 | .lst ds => some ds
 | .tup ds => some ds
 | _ => none
noncomputable def q2Q (δ : List Sv) : List Nat -> List DV -> Option (List Sv)
 | [], [] => some δ
 | i :: is, d :: ds => q2Q (δ.set i (.val d)) is ds
 | _, _ => none
noncomputable def Tg.bind (tg : Tg) (d : DV) (δ : List Sv) : Option (List Sv) := match tg with
 | .one i => some (δ.set i (.val d))
 | .many is => match d with
  | .tup ds => q2Q δ is ds
  | _ => none
noncomputable def Sv.plain : Sv -> Sv
 | .ot _ => .no
 | .o2 _ => .no
 | s => s
noncomputable def q0X (fr : List (Option Nat)) (δ : List Sv) : List Sv := fr.map λ o => match o with
 | some i => (δ.getD i .no).plain
 | none => .no
inductive Rc where
 | skip | item (d : DV)
noncomputable def q1O (g : DV -> Option Rc) : List DV -> Option (List DV)
 | [] => some []
 | d :: r => match g d with
  | none => none
  | some .skip => q1O g r
  | some (.item x) => match q1O g r with
   | none => none
   | some xs => some (x :: xs)
noncomputable def q2B (r : Option (List DV)) : Option Re := match r with
 | none => none
 | some xs => some (.ok (.lst xs) .fresh)
noncomputable def q3O (r : Option (List DV)) : Option Re := match r with
 | none => none
 | some xs => some (.ok (.lst xs) .weak)
noncomputable def Rc.of (r : Option Re) : Option Rc := match r with
 | some (.ok d c) => if stro d c then some (.item d) else none
 | _ => none
noncomputable def Rc.test (t : Option Rt) (r : Option Rc) : Option Rc := match t with
 | some (.ok true) => r
 | some (.ok false) => some .skip
 | _ => none
inductive Ri where
 | ok (ds : List DV) (c : Cl) | ex (c : Str)
noncomputable def Ri.thn (r : Option Ri) (k : List DV -> Cl -> Option Re) : Option Re := match r with
 | none => none
 | some (.ex c) => some (.ex c)
 | some (.ok ds c) => k ds c
noncomputable def Re.thnI (r : Option Re) (k : DV -> Cl -> Option Ri) : Option Ri := match r with
 | none => none
 | some (.ex c) => some (.ex c)
 | some (.ok d c) => k d c
noncomputable def z4N (d : DV) (c : Cl) : Option Ri := (seqD d).map λ ds => .ok ds c
noncomputable def q3o (F : Nat -> List DV -> Option Ou) (f : Nat) (l : List (DV × Cl)) : Option Re := match F f (l.map (·.1)) with
 | none => none
 | some (.x c) => some (.ex c)
 | some (.t d) => some (.ok d (if l.all λ p => p.2 == .strong || p.2 == .fresh then (match d with | .lst _ => .fresh | _ => .ft) else .weak))
 | some (.v d fr) => some (.ok d (if l.all λ p => p.2 == .strong || p.2 == .fresh then (if fr then .fresh else .strong) else .weak))
noncomputable def andD (x : DV) (c : Cl) (r : Option Re) : Option Re := match q2i x with
 | none => none
 | some true => r
 | some false => some (.ok x c)
noncomputable def orD (x : DV) (c : Cl) (r : Option Re) : Option Re := match q2i x with
 | none => none
 | some true => some (.ok x c)
 | some false => r
noncomputable def tstD (r : Option Re) : Option Rt := Re.thnT r λ x _ => (q2i x).map Rt.ok
noncomputable def q1U (r : Option Re) : Option Ri := Re.thnI r λ x c => z4N x c
mutual
noncomputable def evE (G : Gs) (F : Nat -> List DV -> Option Ou) : ME -> List Sv -> Option Re
 | .var i, δ => match δ[i]? with
  | some (.val d) => some (.ok d .strong)
  | some (.own d) => some (.ok d .top)
  | some (.ot d) => some (.ok d .weak)
  | some (.o2 d) => some (.ok d .weak)
  | _ => none
 | .int i, _ => some (.ok (.int i) .strong)
 | .bl i, _ => some (.ok (.bl i) .strong)
 | .str i, _ => some (.ok (.str i) .strong)
 | .non, _ => some (.ok .non .strong)
 | .glb x, _ => (G.con.lookup x).map λ d => .ok d .strong
 | .bin op a b, δ => Re.thn (evE G F a δ) λ x cx => Re.thn (evE G F b δ) λ y cy => binD op x y cx cy
 | .neg a, δ => Re.thn (evE G F a δ) λ x _ => match x with | .int i => some (.ok (.int (-i)) .strong) | _ => none
 | .not a, δ => Re.thn (evE G F a δ) λ x _ => (q2i x).map λ k => .ok (.bl (!k)) .strong
 | .cmp op a b, δ => Re.thn (evE G F a δ) λ x _ => Re.thn (evE G F b δ) λ y _ => (cmpD op x y).map λ k => .ok (.bl k) .strong
 | .chain op op' a b c, δ => Re.thn (evE G F a δ) λ x _ => Re.thn (evE G F b δ) λ y _ => match cmpD op x y with
  | none => none
  | some false => some (.ok (.bl false) .strong)
  | some true => Re.thn (evE G F c δ) λ z _ => (cmpD op' y z).map λ k => .ok (.bl k) .strong
 | .and es, δ => q2x G F es δ
 | .or es, δ => evOr G F es δ
 | .lst es, δ => Rs.thn (evEs G F es δ) λ l => if l.length <= mostLen then some (.ok (.lst (l.map (·.1))) (if stros l then .fresh else .weak)) else none
 | .tup es, δ => Rs.thn (evEs G F es δ) λ l => if l.length <= mostLen then some (.ok (.tup (l.map (·.1))) (if stros l then .strong else .weak)) else none
 | .dc0, _ => some (.ok (.dct [] []) .strong)
 | .ix a b, δ => Re.thn (evE G F a δ) λ x cx => Re.thn (evE G F b δ) λ y _ => (ixD x y).map λ d => .ok d cx.item
 | .slf a lo, δ => Re.thn (evE G F a δ) λ x cx => Re.thn (evE G F lo δ) λ l _ => match l with
  | .int l => (slD x (some l) none).map λ d => .ok d (slCl x cx)
  | _ => none
 | .call f es, δ => Rs.thn (evEs G F es δ) λ l => q3o F f l
 | .bi f es, δ => if biOk f then Rs.thn (evEs G F es δ) λ l => biD f l else none
 | .isi a ts, δ => Re.thn (evE G F a δ) λ x _ => (isiD G x ts).map λ k => .ok (.bl k) .strong
 | .isx a t, δ => Re.thn (evE G F a δ) λ x _ => (isxD G x t).map λ k => .ok (.bl k) .strong
 | .comp elt tg it fr, δ => Ri.thn (q1U (evE G F it δ)) λ ds c => if c = .weak \/ mostLen < ds.length then (if c = .weak /\ ds.length <= mostLen then q3O (q1O (λ d => (tg.bind d (q0X fr [])).bind λ δ' => Rc.of (evE G F elt δ')) ds) else none) else q2B (q1O (λ d => (tg.bind d (q0X fr δ)).bind λ δ' => Rc.of (evE G F elt δ')) ds)
 | .compi elt tg it cd fr, δ => Ri.thn (q1U (evE G F it δ)) λ ds c => if c = .weak \/ mostLen < ds.length then none else q2B (q1O (λ d => (tg.bind d (q0X fr δ)).bind λ δ' => Rc.test (tstD (evE G F cd δ')) (Rc.of (evE G F elt δ'))) ds)
 | .rng es, δ => Rs.thn (evEs G F es δ) λ l => (rngD l).map λ ds => .ok (.lst ds) .fresh
noncomputable def evEs (G : Gs) (F : Nat -> List DV -> Option Ou) : List ME -> List Sv -> Option Rs
 | [], _ => some (.ok [])
 | e :: es, δ => match evE G F e δ with
  | none => none
  | some (.ex c) => some (.ex c)
  | some (.ok d c) => match evEs G F es δ with
   | none => none
   | some (.ex c) => some (.ex c)
   | some (.ok l) => some (.ok ((d, c) :: l))
noncomputable def q2x (G : Gs) (F : Nat -> List DV -> Option Ou) : List ME -> List Sv -> Option Re
 | [], _ => none
 | e :: es, δ => if es.isEmpty then evE G F e δ else Re.thn (evE G F e δ) λ x c => andD x c (q2x G F es δ)
noncomputable def evOr (G : Gs) (F : Nat -> List DV -> Option Ou) : List ME -> List Sv -> Option Re
 | [], _ => none
 | e :: es, δ => if es.isEmpty then evE G F e δ else Re.thn (evE G F e δ) λ x c => orD x c (evOr G F es δ)
end
noncomputable def q2D : Nat := 1000
noncomputable def Re.thnS (δ : List Sv) (r : Option Re) (k : DV -> Cl -> Option Out) : Option Out := match r with
 | none => none
 | some (.ex c) => some (.ex c δ)
 | some (.ok d c) => k d c
noncomputable def Rt.thnS (δ : List Sv) (r : Option Rt) (k : Bool -> Option Out) : Option Out := match r with
 | none => none
 | some (.ex c) => some (.ex c δ)
 | some (.ok b) => k b
noncomputable def Ri.thnS (δ : List Sv) (r : Option Ri) (k : List DV -> Cl -> Option Out) : Option Out := match r with
 | none => none
 | some (.ex c) => some (.ex c δ)
 | some (.ok ds c) => k ds c
noncomputable def q2w (tg : Tg) (body : List Sv -> Option Out) : List DV -> List Sv -> Option Out
 | [], δ => some (.nx δ)
 | d :: r, δ => match tg.bind d δ with
  | none => none
  | some δ1 => match body δ1 with
   | some (.nx δ2) => q2w tg body r δ2
   | o => o
noncomputable def frD : DV -> Cl -> Bool
 | .lst _, .fresh => true | .lst _, .top => true
 | _, _ => false
noncomputable def noOt (i : Nat) (δ : List Sv) : Bool := (List.range δ.length).all λ j => j == i || (match δ[j]? with | some (.ot _) => false | some (.o2 _) => false | _ => true)
noncomputable def q4m (i : Nat) (δ : List Sv) (d : DV) (c : Cl) : Option Out := match c with
 | .fresh => some (.nx (δ.set i (.own d)))
 | .ft => if noOt i δ then some (.nx (δ.set i (.ot d))) else none
 | _ => none
noncomputable def retD (d : DV) (c : Cl) : Out := match c with
 | .ft => .rtt d
 | _ => .rt d (frD d c)
noncomputable def tryD (G : Gs) (c : Str) (ie ic : Nat) (r : Option Out) : Option Out := match r with
 | some (.ex c' δ') => if (G.cls.lookup c').isSome /\ q1I G c' c /\ ie < δ'.length /\ ie ≠ ic then some (.nx ((δ'.set ic (.val (.exc c'))).set ie .no)) else none
 | o => o
mutual
noncomputable def evS (G : Gs) (F : Nat -> List DV -> Option Ou) (fu : Nat) : MS -> List Sv -> Option Out
 | .set i own e, δ => Re.thnS δ (evE G F e δ) λ d c => if own then q4m i δ d c else (if stro d c then some (.nx (δ.set i (.val d))) else none)
 | .sett is e, δ => Re.thnS δ (evE G F e δ) λ d c => if c = .strong \/ c = .fresh then (match q6Z d with
  | some (_, ds) => (q2Q δ is ds).map Out.nx
  | none => none) else none
 | .app i e, δ => match δ[i]? with
  | some (.own (.lst ds)) => Re.thnS δ (evE G F e δ) λ d c => if stro d c /\ ds.length < mostLen then some (.nx (δ.set i (.own (.lst (ds ++ [d]))))) else none
  | _ => none
 | .seti i k e, δ => match δ[i]? with
  | some (.own (.lst ds)) => Re.thnS δ (evE G F e δ) λ d c => Re.thnS δ (evE G F k δ) λ k _ => (match k with
   | .int k => (match q2Y ds.length k with
    | some j => if stro d c then some (.nx (δ.set i (.own (.lst (ds.set j d))))) else none
    | none => none)
   | _ => none)
  | _ => none
 | .exp e, δ => Re.thnS δ (evE G F e δ) λ _ _ => some (.nx δ)
 | .ret e, δ => Re.thnS δ (evE G F e δ) λ d c => some (retD d c)
 | .iff c a b, δ => Rt.thnS δ (tstD (evE G F c δ)) λ k => if k then evSs G F fu a δ else evSs G F fu b δ
 | .fo tg it body, δ => Ri.thnS δ (q1U (evE G F it δ)) λ ds c => if c = .strong \/ c = .fresh then q2w tg (λ δ' => evSs G F fu body δ') ds δ else none
 | .rhg i e, δ => if G.hun then (match δ[i]? with
  | some (.own (.lst ds)) => Re.thnS δ (evE G F e δ) λ d c => if stro d c then (match F q2D [d, .lst ds] with
   | some (.v r _) => some (.rt r false)
   | _ => none) else none
  | _ => none) else none
 | .rse c e, δ => if (G.cls.lookup c).isSome then Re.thnS δ (evE G F e δ) λ _ _ => some (.ex c δ) else none
 | .tryc body c ie ic, δ => tryD G c ie ic (evSs G F fu body δ)
 | .frz i, δ => match δ[i]? with
  | some (.own d) => some (.nx (δ.set i (.val d)))
  | _ => some (.nx δ)
noncomputable def evSs (G : Gs) (F : Nat -> List DV -> Option Ou) (fu : Nat) : List MS -> List Sv -> Option Out
 | [], δ => some (.nx δ)
 | s :: r, δ => match evS G F fu s δ with
  | some (.nx δ') => evSs G F fu r δ'
  | o => o
end
noncomputable def q0k (n : Nat) (ds : List DV) : List Sv := ds.map Sv.val ++ List.replicate (n - ds.length) .no
noncomputable def Ou.of (o : Option Out) : Option Ou := match o with
 | some (.nx _) => some (.v .non false)
 | some (.rt d fr) => some (.v d fr)
 | some (.rtt d) => some (.t d)
 | some (.ex c _) => some (.x c)
 | none => none
noncomputable def q2p : Nat -> DV -> List DV -> Option (DV × List DV)
 | 0, _, _ => none
 | k + 1, d, l => match d with
  | .tup [.str s, x] => if decide (s = "end") && d.plain 60 && DV.plains 59 l then (match l with
   | [] => some (d, [])
   | y :: l' => some (y, l')) else none
  | .tup [.str s, a, b, c, e] => if decide (s ≠ "end") && (s.cps.all (· < 0x110000)) then (match q2p k c l with
   | none => none
   | some (n, l1) => match q2p k e l1 with
    | none => none
    | some (y, l2) => some (.tup [.str "ask", a, b, n, y], l2)) else none
  | _ => none
noncomputable def q3u (k : Nat) (f : Nat) (ds : List DV) : Option Ou := match ds with
 | [d, .lst l] => if f = q2D then (q2p k d l).map (λ r => .v r.1 false) else none
 | _ => none
noncomputable def run (G : Gs) (T : List FD) (fu : Nat) : Nat -> Nat -> List DV -> Option Ou
 | 0, _, _ => none
 | k + 1, f, ds => match T[f]? with
  | none => q3u (k + 1) f ds
  | some fd => if ds.length = fd.np then Ou.of (evSs G (run G T fu k) fu fd.body (q0k fd.n ds)) else none
end L2
end
section
namespace L2
open PySem
section
variable {G : Gs} {F : Nat -> List DV -> Option Ou} {fu : Nat} {δ : List Sv}
theorem q1o {d : DV} {c : Cl} {k : DV -> Cl -> Option Re} : Re.thn (some (.ok d c)) k = k d c := rfl
theorem q2l {l : List (DV × Cl)} {k : List (DV × Cl) -> Option Re} : Rs.thn (some (.ok l)) k = k l := rfl
theorem q7X {d : DV} {c : Cl} {k : DV -> Cl -> Option Out} : Re.thnS δ (some (.ok d c)) k = k d c := rfl
theorem z3N {m : MS} {r : List MS} {δ' : List Sv} (h : evS G F fu m δ = some (.nx δ')) : evSs G F fu (m :: r) δ = evSs G F fu r δ' := by
 rw [show evSs G F fu (m :: r) δ = (match evS G F fu m δ with | some (.nx δ') => evSs G F fu r δ' | o => o) from rfl, h]
theorem z3E {m : MS} {r : List MS} {d : DV} {fr : Bool} (h : evS G F fu m δ = some (.rt d fr)) : evSs G F fu (m :: r) δ = some (.rt d fr) := by
 rw [show evSs G F fu (m :: r) δ = (match evS G F fu m δ with | some (.nx δ') => evSs G F fu r δ' | o => o) from rfl, h]
theorem q0m {T : List FD} {k f : Nat} {ds : List DV} {fd : FD} (h : T[f]? = some fd) (hl : ds.length = fd.np) : run G T fu (k + 1) f ds = Ou.of (evSs G (run G T fu k) fu fd.body (q0k fd.n ds)) := by
 show (match T[f]? with | none => q3u (k + 1) f ds | some fd => if ds.length = fd.np then Ou.of (evSs G (run G T fu k) fu fd.body (q0k fd.n ds)) else none) = _
 rw [h]
 exact if_pos hl
end
end L2
namespace L2
open PySem
end L2
namespace L2
open PySem
section
variable {G : Gs} {F : Nat -> List DV -> Option Ou} {fu : Nat} {δ δ' : List Sv} {m : MS} {r a b body : List MS} {o : Option Out} {c it : ME} {d : DV} {fr : Bool} {tg : Tg} {ds : List DV} {cl : Cl}
theorem q0K (h : evSs G F fu r δ = some (.rt d fr)) : Ou.of (evSs G F fu r δ) = some (.v d fr) := by rw [h]; rfl
theorem q0O (h : evS G F fu m δ = some (.nx δ')) (h2 : evSs G F fu r δ' = o) : evSs G F fu (m :: r) δ = o := (z3N h).trans h2
theorem q0G (h : evS G F fu m δ = some (.rt d fr)) : evSs G F fu (m :: r) δ = some (.rt d fr) := z3E h
theorem z1r {bb : Bool} (hc : tstD (evE G F c δ) = some (.ok bb)) : evS G F fu (.iff c a b) δ = if bb then evSs G F fu a δ else evSs G F fu b δ := by
 show Rt.thnS δ (tstD (evE G F c δ)) (λ k => if k then evSs G F fu a δ else evSs G F fu b δ) = _
 rw [hc]; rfl
theorem z0b (hc : tstD (evE G F c δ) = some (.ok true)) (h : evSs G F fu a δ = some (.nx δ')) (h2 : evSs G F fu r δ' = o) : evSs G F fu (.iff c a b :: r) δ = o := q0O ((z1r hc).trans h) h2
theorem z0l (hc : tstD (evE G F c δ) = some (.ok false)) (h : evSs G F fu b δ = some (.nx δ')) (h2 : evSs G F fu r δ' = o) : evSs G F fu (.iff c a b :: r) δ = o := q0O ((z1r hc).trans h) h2
theorem q1N (hc : tstD (evE G F c δ) = some (.ok true)) (h : evSs G F fu a δ = some (.rt d fr)) : evSs G F fu (.iff c a b :: r) δ = some (.rt d fr) := q0G ((z1r hc).trans h)
theorem q0Y (hc : tstD (evE G F c δ) = some (.ok false)) (h2 : evSs G F fu r δ = o) : evSs G F fu (.iff c a [] :: r) δ = o := z0l hc rfl h2
theorem q8n (hw : q1U (evE G F it δ) = some (.ok ds cl)) (hc : cl = .strong \/ cl = .fresh) (h : q2w tg (λ δ' => evSs G F fu body δ') ds δ = some (.nx δ')) (h2 : evSs G F fu r δ' = o) : evSs G F fu (.fo tg it body :: r) δ = o := by
 refine q0O ?_ h2
 show Ri.thnS δ (q1U (evE G F it δ)) (λ ds c => if c = .strong \/ c = .fresh then q2w tg (λ δ' => evSs G F fu body δ') ds δ else none) = _
 rw [hw]
 show (if cl = .strong \/ cl = .fresh then q2w tg (λ δ' => evSs G F fu body δ') ds δ else none) = _
 rw [if_pos hc]
 exact h
theorem q0E {i : Nat} {e : ME} (h : evE G F e δ = some (.ok d cl)) (hs : stro d cl = true) : evS G F fu (.set i false e) δ = some (.nx (δ.set i (.val d))) := by
 show Re.thnS δ (evE G F e δ) (λ d c => if false then q4m i δ d c else (if stro d c then some (.nx (δ.set i (.val d))) else none)) = _
 rw [h]
 show (if stro d cl then some (Out.nx (δ.set i (.val d))) else none) = _
 rw [if_pos hs]
theorem q7v {i : Nat} {e : ME} (h : evE G F e δ = some (.ok d .fresh)) : evS G F fu (.set i true e) δ = some (.nx (δ.set i (.own d))) := by
 show Re.thnS δ (evE G F e δ) (λ d c => if true then q4m i δ d c else (if stro d c then some (.nx (δ.set i (.val d))) else none)) = _
 rw [h]
 rfl
theorem q0D {e : ME} (h : evE G F e δ = some (.ok d cl)) (hc : cl ≠ .ft := by first | decide | (intro z; cases z)) : evS G F fu (.ret e) δ = some (.rt d (frD d cl)) := by
 show Re.thnS δ (evE G F e δ) (λ d c => some (retD d c)) = _
 rw [h]
 show some (retD d cl) = _
 cases cl <;> first | rfl | exact absurd rfl hc
theorem q0f {f : Nat} {es : List ME} {l : List (DV × Cl)} (ha : evEs G F es δ = some (.ok l)) (hs : (l.all λ p => p.2 == .strong || p.2 == .fresh) = true) (h : F f (l.map (·.1)) = some (.v d fr)) : evE G F (.call f es) δ = some (.ok d (if fr then .fresh else .strong)) := by
 show Rs.thn (evEs G F es δ) (λ l => q3o F f l) = _
 rw [ha]
 show q3o F f l = _
 unfold q3o
 rw [h, hs]
 rfl
theorem q3G {f : Nat} {es : List ME} {l : List (DV × Cl)} (ha : evEs G F es δ = some (.ok l)) (hs : (l.all λ p => p.2 == .strong || p.2 == .fresh) = false) (h : F f (l.map (·.1)) = some (.v d fr)) : evE G F (.call f es) δ = some (.ok d .weak) := by
 show Rs.thn (evEs G F es δ) (λ l => q3o F f l) = _
 rw [ha]
 show q3o F f l = _
 unfold q3o
 rw [h, hs]
 rfl
theorem q0r {e : ME} {x : Bool} (h : evE G F e δ = some (.ok (.bl x) cl)) : tstD (evE G F e δ) = some (.ok x) := by rw [h]; rfl
theorem q1H {e : ME} {x : Bool} (h : evE G F e δ = some (.ok (.bl x) cl)) : evE G F (.not e) δ = some (.ok (.bl (!x)) .strong) := by
 show Re.thn (evE G F e δ) (λ x _ => (q2i x).map λ k => .ok (.bl (!k)) .strong) = _
 rw [h]; rfl
end
end L2
namespace L2
open PySem
section
variable {G : Gs} {F : Nat -> List DV -> Option Ou} {fu : Nat} {δ δ' : List Sv} {a b : ME} {x y : DV} {cx cy : Cl}
theorem q4H {op : Operator} {r : Option Re} (ha : evE G F a δ = some (.ok x cx)) (hb : evE G F b δ = some (.ok y cy)) (h : binD op x y cx cy = r) : evE G F (.bin op a b) δ = r := by
 show Re.thn (evE G F a δ) (λ x cx => Re.thn (evE G F b δ) λ y cy => binD op x y cx cy) = _
 rw [ha, q1o, hb, q1o, h]
theorem q1Q {op : CmpOp} {t : Bool} (ha : evE G F a δ = some (.ok x cx)) (hb : evE G F b δ = some (.ok y cy)) (h : cmpD op x y = some t) : evE G F (.cmp op a b) δ = some (.ok (.bl t) .strong) := by
 show Re.thn (evE G F a δ) (λ x _ => Re.thn (evE G F b δ) λ y _ => (cmpD op x y).map λ k => .ok (.bl k) .strong) = _
 rw [ha, q1o, hb, q1o, h]; rfl
theorem q0s {d : DV} (ha : evE G F a δ = some (.ok x cx)) (hb : evE G F b δ = some (.ok y cy)) (h : ixD x y = some d) : evE G F (.ix a b) δ = some (.ok d cx.item) := by
 show Re.thn (evE G F a δ) (λ x cx => Re.thn (evE G F b δ) λ y _ => (ixD x y).map λ d => .ok d cx.item) = _
 rw [ha, q1o, hb, q1o, h]; rfl
theorem q9f {t : Bool} (ha : evE G F a δ = some (.ok (.bl false) cx)) : evE G F (.and [a, b]) δ = some (.ok (.bl false) cx) := by
 show Re.thn (evE G F a δ) (λ x c => andD x c (evE G F b δ)) = _
 rw [ha]; rfl
theorem q3K {o : Option Re} (ha : evE G F a δ = some (.ok (.bl true) cx)) (hb : evE G F b δ = o) : evE G F (.and [a, b]) δ = o := by
 show Re.thn (evE G F a δ) (λ x c => andD x c (evE G F b δ)) = _
 rw [ha]; exact hb
theorem q1D {o : Option Re} (ha : evE G F a δ = some (.ok (.bl false) cx)) (hb : evE G F b δ = o) : evE G F (.or [a, b]) δ = o := by
 show Re.thn (evE G F a δ) (λ x c => orD x c (evE G F b δ)) = _
 rw [ha]; exact hb
theorem q5V (ha : evE G F a δ = some (.ok (.bl true) cx)) : evE G F (.or [a, b]) δ = some (.ok (.bl true) cx) := by
 show Re.thn (evE G F a δ) (λ x c => orD x c (evE G F b δ)) = _
 rw [ha]; rfl
theorem q0d : evEs G F [] δ = some (.ok []) := rfl
theorem q0a {es : List ME} {l : List (DV × Cl)} (ha : evE G F a δ = some (.ok x cx)) (h : evEs G F es δ = some (.ok l)) : evEs G F (a :: es) δ = some (.ok ((x, cx) :: l)) := by
 unfold evEs
 rw [ha, h]
end
end L2
namespace L2
open PySem
section
variable {G : Gs} {F : Nat -> List DV -> Option Ou} {fu : Nat} {δ δ' : List Sv} {a b c e : ME} {x y d : DV} {cx cy cl : Cl} {i : Nat} {ds : List DV}
theorem z0s (h0 : δ[i]? = some (.own (.lst ds))) (h : evE G F e δ = some (.ok d cl)) (hs : stro d cl = true) (hl : ds.length < mostLen) : evS G F fu (.app i e) δ = some (.nx (δ.set i (.own (.lst (ds ++ [d]))))) := by
 unfold evS
 rw [h0]
 show Re.thnS δ (evE G F e δ) (λ d c => if stro d c /\ ds.length < mostLen then some (.nx (δ.set i (.own (.lst (ds ++ [d]))))) else none) = _
 rw [h]
 exact if_pos ⟨hs, hl⟩
theorem z1f {k : ME} {n : Int} {j : Nat} (h0 : δ[i]? = some (.own (.lst ds))) (h : evE G F e δ = some (.ok d cl)) (hk : evE G F k δ = some (.ok (.int n) cx)) (hs : stro d cl = true) (hj : q2Y ds.length n = some j) : evS G F fu (.seti i k e) δ = some (.nx (δ.set i (.own (.lst (ds.set j d))))) := by
 unfold evS
 rw [h0]
 show Re.thnS δ (evE G F e δ) (λ d c => Re.thnS δ (evE G F k δ) λ k _ => (match k with | .int k => (match q2Y ds.length k with | some j => if stro d c then some (.nx (δ.set i (.own (.lst (ds.set j d))))) else none | none => none) | _ => none)) = _
 rw [h, q7X, hk, q7X]
 show (match q2Y ds.length n with | some j => if stro d cl then some (Out.nx (δ.set i (.own (.lst (ds.set j d))))) else none | none => none) = _
 rw [hj]
 exact if_pos hs
end
end L2
namespace L2
open PySem
section
variable {G : Gs} {F : Nat -> List DV -> Option Ou} {fu : Nat} {δ δ' : List Sv} {a b c e : ME} {x y d : DV} {cx cy cl : Cl} {i : Nat} {ds : List DV}
theorem q3k {I : Nat -> List Sv -> Prop} {body : List Sv -> Option Out} : ∀ (n : Nat) (lo : Int) {δ : List Sv}, (∀ j < n, ∀ δ, I j δ -> ∃ δ2, body (δ.set i (.val (.int (lo + j)))) = some (.nx δ2) /\ I (j + 1) δ2) -> I 0 δ -> ∃ δ', q2w (.one i) body (upTo lo n) δ = some (.nx δ') /\ I n δ'
 | 0, _, δ, _, i0 => ⟨δ, rfl, i0⟩
 | n + 1, lo, δ, h, i0 => by
  have e : upTo lo (n + 1) = .int lo :: upTo (lo + 1) n := by
   unfold upTo
   rw [List.range_succ_eq_map, List.map_cons, List.map_map]
   congr 1
   ·congr 1; omega
   ·apply List.map_congr_left
    intro a _
    show DV.int _ = DV.int _
    congr 1
    push_cast
    omega
  obtain ⟨δ2, h0, i1⟩ := h 0 (by omega) δ i0
  rw [show lo + ((0 : Nat) : Int) = lo by omega] at h0
  obtain ⟨δ', h1, i2⟩ := q3k (I := λ j => I (j + 1)) n (lo + 1) (δ := δ2) (λ j hj δ q => by
   obtain ⟨δ3, q1, q2⟩ := h (j + 1) (by omega) δ q
   refine ⟨δ3, ?_, q2⟩
   rw [show lo + 1 + ((j : Nat) : Int) = lo + ((j + 1 : Nat) : Int) by push_cast; omega]
   exact q1) i1
  refine ⟨δ', ?_, i2⟩
  rw [e]
  show (match body (δ.set i (.val (.int lo))) with | some (.nx δ2) => q2w (.one i) body (upTo (lo + 1) n) δ2 | o => o) = _
  rw [h0]
  exact h1
theorem z3t {l : List Int} {j : Nat} (h : j < l.length) : ixD (.lst (l.map DV.int)) (.int j) = some (.int l[j]) := by
 have hh : (j : Int) < ((l.map DV.int).length : Int) := by rw [List.length_map]; exact_mod_cast h
 simp only [ixD, atD, q2Y, if_pos (Int.natCast_nonneg j), if_pos hh, Option.bind_some, Int.toNat_natCast, List.getElem?_map, List.getElem?_eq_getElem h, Option.map_some]
theorem q2E {l : List Int} {i : Int} (h0 : 0 <= i) (h : i < l.length) : ∃ v, ixD (.lst (l.map DV.int)) (.int i) = some (.int v) := by
 obtain ⟨j, rfl⟩ := Int.eq_ofNat_of_zero_le h0
 exact ⟨_, z3t (by omega)⟩
end
end L2
namespace L2
open PySem
section
variable {G : Gs} {F : Nat -> List DV -> Option Ou} {fu : Nat} {δ δ' : List Sv} {r body : List MS} {it : ME} {cl : Cl} {ds : List DV} {tg : Tg} {o : Option Out}
end
end L2
namespace L2
open PySem
section
variable {G : Gs} {F : Nat -> List DV -> Option Ou} {fu : Nat} {δ δ' : List Sv} {a b : ME} {i j : Int} {cx cy : Cl}
theorem q0c : evE G F (.int i) δ = some (.ok (.int i) .strong) := rfl
theorem q0b {n : Nat} {d : DV} (h : δ[n]? = some (.val d)) : evE G F (.var n) δ = some (.ok d .strong) := by unfold evE; rw [h]
theorem q3p {n : Nat} {d : DV} (h : δ[n]? = some (.own d)) : evE G F (.var n) δ = some (.ok d .top) := by unfold evE; rw [h]
theorem q1V (ha : evE G F a δ = some (.ok (.int i) cx)) (hb : evE G F b δ = some (.ok (.int j) cy)) : evE G F (.bin .Add a b) δ = some (.ok (.int (i + j)) .strong) := q4H ha hb rfl
theorem q3n (ha : evE G F a δ = some (.ok (.int i) cx)) (hb : evE G F b δ = some (.ok (.int j) cy)) : evE G F (.bin .Sub a b) δ = some (.ok (.int (i - j)) .strong) := q4H ha hb rfl
theorem q9g (ha : evE G F a δ = some (.ok (.int i) cx)) (hb : evE G F b δ = some (.ok (.int j) cy)) (h : q4S i j = true) : evE G F (.bin .Mult a b) δ = some (.ok (.int (i * j)) .strong) := q4H ha hb (if_pos h)
theorem q1s (ha : evE G F a δ = some (.ok (.int i) cx)) (hb : evE G F b δ = some (.ok (.int j) cy)) (h : 0 < j) : evE G F (.bin .Mod a b) δ = some (.ok (.int (i % j)) .strong) := q4H ha hb (if_pos h)
theorem q8T (ha : evE G F a δ = some (.ok (.int i) cx)) (hb : evE G F b δ = some (.ok (.int j) cy)) (h : 0 < j /\ j < 1073741824) : evE G F (.bin .FloorDiv a b) δ = some (.ok (.int (i / j)) .strong) := q4H ha hb (if_pos ⟨h.1, Int.lt_trans h.2 (by decide)⟩)
theorem b_eq (ha : evE G F a δ = some (.ok (.int i) cx)) (hb : evE G F b δ = some (.ok (.int j) cy)) : evE G F (.cmp .Eq a b) δ = some (.ok (.bl (i == j)) .strong) := q1Q ha hb rfl
theorem b_lt (ha : evE G F a δ = some (.ok (.int i) cx)) (hb : evE G F b δ = some (.ok (.int j) cy)) : evE G F (.cmp .Lt a b) δ = some (.ok (.bl (decide (i < j))) .strong) := q1Q ha hb rfl
theorem b_gt (ha : evE G F a δ = some (.ok (.int i) cx)) (hb : evE G F b δ = some (.ok (.int j) cy)) : evE G F (.cmp .Gt a b) δ = some (.ok (.bl (decide (j < i))) .strong) := q1Q ha hb rfl
end
end L2
namespace L2
open PySem
section
variable {G : Gs} {F : Nat -> List DV -> Option Ou} {fu : Nat} {δ δ' : List Sv} {es : List ME} {l : List (DV × Cl)}
theorem q0z {x : Str} : evE G F (.str x) δ = some (.ok (.str x) .strong) := rfl
theorem q2G (h : evEs G F es δ = some (.ok l)) (hl : l.length <= mostLen) (hs : stros l = true) : evE G F (.tup es) δ = some (.ok (.tup (l.map (·.1))) .strong) := by
 show Rs.thn (evEs G F es δ) (λ l => if l.length <= mostLen then some (.ok (.tup (l.map (·.1))) (if stros l then .strong else .weak)) else none) = _
 rw [h, q2l, if_pos hl, hs]
 rfl
end
end L2
namespace L2
open PySem
end L2
namespace L2
open PySem
end L2
end
section
namespace L2
open PySem
noncomputable def Rise (xs : Array Nat) : Prop := ∀ (i k x y : Nat), i < k -> xs[i]? = some x -> xs[k]? = some y -> x < y
structure Tab (t : SetTable) (b : Bool) : Prop where
 rise : Rise t.place
 dum : t.dummies = #[]
 led : t.led = b
end L2
end
section
namespace L2
open PySem
section
variable {prog : Program} {w : World} {A : Around} {E : Value -> Shared -> Prop} {s : Shared} {a : Addr} {ks : List Int}
theorem z5a {h : Heap} {o : Obj} {es es' : Array (Int × Value)} {ep : Nat} {t t' : SetTable} (ho : h.get? a = some o) (hd : o.data = .set es ep t) :
  (h.update a (Obj.putSet es' t')).get? a = some { o with data := .set es' (ep + 1) t' } := by
 have q := Heap.get?_update_self (Obj.putSet es' t') ho (by rw [putSet_of es' t' hd]; rfl)
 rwa [putSet_of es' t' hd] at q
end
end L2
end
section
namespace L2
open PySem PySem.Spec PyProof.Rows
section
variable {prog : Program} {w : World} {A : Around} {E : Value -> Shared -> Prop} {s : Shared}
theorem z4C {it l : Addr} {items : Array Value} (hne : l ≠ it) : ∀ (k i : Nat) (s : Shared) (Q : List Value -> Shared -> Prop), s.heap.IsListIter it l i -> s.heap.IsList l items -> i + k = items.size ->
  (∀ h', h'.IsListIter it l items.size -> Heap.SameBut it s.heap h' -> Q (items.toList.drop i) { s with heap := h' }) -> wpAny (model prog w) A (draw (.ref it) k) Q E s := by
 intro k
 induction k with
 | zero =>
  intro i s Q hi hl e h
  show wpAny (model prog w) A (pure []) Q E s
  have e : i = items.size := e
  subst e
  have := h s.heap hi (Heap.SameBut.refl _ _)
  rw [List.drop_of_length_le (by rw [Array.length_toList]; exact Nat.le_refl _)] at this
  exact wpAny_pure this
 | succ k ih =>
  intro i s Q hi hl e h
  have hlt : i < items.size := by omega
  show wpAny (model prog w) A (pyNext (.ref it) >>= _) Q E s
  refine wpAny_bind (wpAny_pyNext_list_item hi hl (x := items[i]) (Array.getElem?_eq_getElem hlt) λ h1 i1 b1 => ?_)
  refine wpAny_bind (wpAny_holding (ih (i + 1) _ _ i1 (hl.extBut b1.extBut hne) (by omega) λ h2 i2 b2 => wpAny_pure ?_))
  have := h h2 i2 (b1.trans b2)
  rw [List.drop_eq_getElem_cons (by rw [Array.length_toList]; exact hlt)] at this
  exact this
theorem asgL {env : Env} {elts : List Expr} {x1} {pos : Pos} {l : Addr} {items : Array Value} {Q : Unit -> Shared -> Prop} (hh : A.handled = none) (hl : s.heap.IsList l items)
  (hn : (assignEach elts env).length = items.size) (hst : (assignEach elts env).findIdx? (·.1) = none)
  (h : ∀ h', Heap.ExtBut s.heap.objs.size s.heap h' -> wpAny (model prog w) A (assignInOrder ((assignEach elts env).map (·.2)) items.toList) Q E { s with heap := h' }) :
  wpAny (model prog w) A (assign (.Tuple elts x1 pos) env (.ref l)) Q E s := by
 have hlt : l ≠ s.heap.objs.size := by
  obtain ⟨o, ho, _⟩ := hl
  exact Nat.ne_of_lt (Heap.lt_size ho)
 rw [assign_Tuple]
 refine wpAny_bind (wpAny_standAt ?_)
 unfold unpack
 rw [hn, hst]
 refine wpAny_bind (wpAny_holding ?_)
 unfold unpackItems
 refine wpAny_bind ?_
 unfold notIterableAtAll
 refine wpAny_bind (wpAny_specialOf hl.typeIs slot_list_iter.lookup (wpAny_pure ?_))
 simp only [Bool.false_eq_true, if_false]
 refine wpAny_bind (wpAny_holding (wpAny_pyIter_list hl ?_))
 refine wpAny_bind (wpAny_holding (z4C hlt items.size 0 _ _ ⟨_, Heap.get?_push_size _ rfl, rfl, rfl⟩ (hl.push _) (Nat.zero_add _) λ h1 i1 b1 => ?_))
 rw [List.drop_zero, if_neg (by rw [Array.length_toList]; exact Nat.lt_irrefl _)]
 refine wpAny_bind (wpAny_holding (wpAny_pyNext_list_end hh i1 ((hl.push _).extBut b1.extBut hlt) (Array.getElem?_eq_none (Nat.le_refl _)) λ h2 b2 => ?_))
 simp only [Option.isSome_none, Bool.false_eq_true, if_false]
 exact wpAny_pure (h h2 λ b o hb e => b2 b o hb (b1.extBut b o hb (Heap.get?_push_of_some _ e)))
theorem z1O {l : List Int} {i : Nat} (h : i < l.length) : l.getD i 0 ∈ l := by
 rw [List.getD_eq_getElem?_getD, List.getElem?_eq_getElem h]
 exact List.getElem_mem h
theorem minL {l : Addr} {vs : List Value} {ns : List Int} {Q : Value -> Shared -> Prop} (hh : A.handled = none) (hl : s.heap.IsList l vs.toArray) (hi : IntsAre vs ns) (hz : ns ≠ [])
  (h : ∀ h' M (t : Tok) tk, (∀ b o, s.heap.get? b = some o -> h'.get? b = some o) -> M ∈ ns -> (∀ a ∈ ns, M <= a) -> Q (.int M t) { s with heap := h', toks := tk }) : wpAny (model prog w) A (call (.builtin "min") [.ref l]) Q E s := by
 obtain ⟨ys, e⟩ := hi.allInts.items
 have en : ns = ys.toList.map (·.1) := by rw [← hi.numsOf, ← nums_intItems, ← e]
 have zy : 0 < ys.size := by
  have q : 0 < ns.length := List.length_pos_iff.mpr hz
  rwa [en, List.length_map, Array.length_toList] at q
 rw [e] at hl
 refine min_intList hh hl zy λ v h1 tk q k => ?_
 obtain ⟨t, ev⟩ := intItems_at q
 subst ev
 obtain ⟨g1, g2⟩ := argBest_lt (numAt ys) (ys.size - 1)
 refine h h1 _ t tk k ?_ λ a ha => ?_
 ·rw [en, numAt_eq]
  exact z1O (by rw [List.length_map, Array.length_toList]; omega)
 ·rw [en] at ha
  obtain ⟨j, hj, ej⟩ := mem_getD ha
  subst ej
  rw [List.length_map, Array.length_toList] at hj
  rw [← numAt_eq]
  exact g2 j (by omega)
theorem maxL {l : Addr} {vs : List Value} {ns : List Int} {Q : Value -> Shared -> Prop} (hh : A.handled = none) (hl : s.heap.IsList l vs.toArray) (hi : IntsAre vs ns) (hz : ns ≠ [])
  (h : ∀ h' M (t : Tok) tk, (∀ b o, s.heap.get? b = some o -> h'.get? b = some o) -> M ∈ ns -> (∀ a ∈ ns, a <= M) -> Q (.int M t) { s with heap := h', toks := tk }) : wpAny (model prog w) A (call (.builtin "max") [.ref l]) Q E s := by
 obtain ⟨ys, e⟩ := hi.allInts.items
 have en : ns = ys.toList.map (·.1) := by rw [← hi.numsOf, ← nums_intItems, ← e]
 have zy : 0 < ys.size := by
  have q : 0 < ns.length := List.length_pos_iff.mpr hz
  rwa [en, List.length_map, Array.length_toList] at q
 rw [e] at hl
 refine max_intList hh hl zy λ v h1 tk q k => ?_
 obtain ⟨t, ev⟩ := intItems_at q
 subst ev
 obtain ⟨g1, g2⟩ := argBest_gt (numAt ys) (ys.size - 1)
 refine h h1 _ t tk k ?_ λ a ha => ?_
 ·rw [en, numAt_eq]
  exact z1O (by rw [List.length_map, Array.length_toList]; omega)
 ·rw [en] at ha
  obtain ⟨j, hj, ej⟩ := mem_getD ha
  subst ej
  rw [List.length_map, Array.length_toList] at hj
  rw [← numAt_eq]
  exact g2 j (by omega)
end
section
variable {X : Cx} {pos : Pos}
noncomputable def gSeq (K : PySem.W.Frag) (n : Nat) (t : TGs) : TG := λ v σ H Q => ∃ a xs, v = .ref a /\ (SqL K H a xs \/ SqT K H a xs) /\ xs.length = n /\ t xs σ H Q
theorem z2S {es : List Expr} {k : Nat} {t : TGs} {n : Nat} (hc : X.calm = true) (h : PGs X es t) (hn : (assignEach es X.env).length = n) (hst : (assignEach es X.env).findIdx? (·.1) = none) : PG X (.Tuple es k pos) (gSeq X.K n t) := by
 intro pins s σ H v u Q I r hw
 obtain ⟨a, xs, e1, hq, hl, hw⟩ := hw
 rcases hq with hq | hq
 ·subst e1
  cases r
  obtain ⟨its, rv, pl, hz⟩ := I.list hq
  refine asgL (I.ok.hd hc) pl.isList (by rw [hn, List.size_toArray, ← rv.length, hl]) hst λ h' hx => ?_
  have I1 : Inv X pins σ H { s with heap := h' } := I.kept (t' := s.toks) λ b o e => hx b o (Nat.ne_of_lt (Heap.lt_size e)) e
  exact h pins _ σ H xs _ Q I1 rv hw
 ·exact z0i hc h hn hst pins s σ H v u Q I r ⟨a, xs, e1, hq, hl, hw⟩
theorem q9L : ∀ {ns : List Int} {us : List Value}, Vals (ns.map V.int) us -> IntsAre us ns
 | [], us, h => by cases h; exact .nil
 | n :: ns, us, h => by
  cases h with
  | cons r t =>
   obtain ⟨tk, rfl⟩ := r
   exact .cons n tk (q9L t)
theorem q8G (hc : X.calm = true) : q1L X (.builtin "min") (λ xs H Q => ∃ (a : Addr) (ns : List Int), xs = [.ref a] /\ SqL X.K H a (ns.map V.int) /\ ns ≠ [] /\ ∀ M, M ∈ ns -> (∀ x ∈ ns, M <= x) -> Q (.int M) H) := by
 intro pins s σ H xs us Q I r h
 obtain ⟨a, ns, rfl, hq, hz, q⟩ := h
 obtain ⟨u, rfl, r1⟩ := q5M r
 cases r1
 obtain ⟨its, rv, pl, _⟩ := I.list hq
 exact minL (I.ok.hd hc) pl.isList (q9L rv) hz λ h' M t tk k m1 m2 => ⟨.int M, H, I.kept k, ⟨t, rfl⟩, q M m1 m2⟩
theorem q8A (hc : X.calm = true) : q1L X (.builtin "max") (λ xs H Q => ∃ (a : Addr) (ns : List Int), xs = [.ref a] /\ SqL X.K H a (ns.map V.int) /\ ns ≠ [] /\ ∀ M, M ∈ ns -> (∀ x ∈ ns, x <= M) -> Q (.int M) H) := by
 intro pins s σ H xs us Q I r h
 obtain ⟨a, ns, rfl, hq, hz, q⟩ := h
 obtain ⟨u, rfl, r1⟩ := q5M r
 cases r1
 obtain ⟨its, rv, pl, _⟩ := I.list hq
 exact maxL (I.ok.hd hc) pl.isList (q9L rv) hz λ h' M t tk k m1 m2 => ⟨.int M, H, I.kept k, ⟨t, rfl⟩, q M m1 m2⟩
end
end L2
end
section
namespace L2
open PySem PySem.Spec PySem.Calls PyProof.Rows PySem.W
section
variable {prog : Program} {w : World} {A : Around} {E : Value -> Shared -> Prop} {s : Shared}
theorem q5K {t : Addr} {xs : Array (Int × Tok)} {Q : Value -> Shared -> Prop} (hh : A.handled = none) (ht : s.heap.IsTuple t (intItems xs)) (hne : 0 < xs.size)
  (h : ∀ v h' tk, (intItems xs)[argBest (λ i j => decide (numAt xs i < numAt xs j)) (xs.size - 1)]? = some v -> (∀ b o, s.heap.get? b = some o -> h'.get? b = some o) -> Q v { s with heap := h', toks := tk }) :
  wpAny (model prog w) A (call (.builtin "min") [.ref t]) Q E s := by
 obtain ⟨o, ho, hc, n, hd⟩ := id ht
 have hlt : t < s.heap.objs.size := Heap.lt_size ho
 refine call_min_walk (wpAny_pyIter_tuple ht ?_)
 refine ⟨_, _, _, _, _, _, _, rfl, Walks.tuple (A := A.in1) hh _ t (Nat.ne_of_lt hlt) (intItems xs), ⟨⟨_, Heap.get?_push_size _ rfl, rfl, rfl⟩, ht.push _⟩, λ b hb => ?_, by simpa [intItems] using hne, CmpOf.ints_lt (numAt xs) (λ _ _ => intItems_at), λ v h' tk hP hk => ?_⟩
 ·show b < (s.heap.push _).objs.size
  rw [Heap.size_push]
  rcases List.mem_cons.mp hb with rfl | hb
  ·exact Nat.lt_succ_self _
  ·rcases List.mem_cons.mp hb with rfl | hb
   ·exact Nat.lt_succ_of_lt hlt
   ·cases hb
 ·refine h v h' tk (by simpa [intItems] using hP) λ b o e => hk b o (λ hm => ?_) (Heap.get?_push_of_some _ e)
  rcases List.mem_cons.mp hm with e1 | hm
  ·exact absurd (e1 ▸ Heap.lt_size e) (Nat.lt_irrefl _)
  ·cases hm
end
section
variable {prog : Program} {w : World} {A : Around} {E : Value -> Shared -> Prop} {s : Shared}
end
end L2
end
section
namespace L2
open PySem PySem.Spec PyProof.Rows
section
variable {prog : Program} {w : World} {A : Around} {E : Value -> Shared -> Prop} {s : Shared}
theorem minT {l : Addr} {vs : List Value} {ns : List Int} {Q : Value -> Shared -> Prop} (hh : A.handled = none) (hl : s.heap.IsTuple l vs.toArray) (hi : IntsAre vs ns) (hz : ns ≠ [])
  (h : ∀ h' M (t : Tok) tk, (∀ b o, s.heap.get? b = some o -> h'.get? b = some o) -> M ∈ ns -> (∀ a ∈ ns, M <= a) -> Q (.int M t) { s with heap := h', toks := tk }) : wpAny (model prog w) A (call (.builtin "min") [.ref l]) Q E s := by
 obtain ⟨ys, e⟩ := hi.allInts.items
 have en : ns = ys.toList.map (·.1) := by rw [← hi.numsOf, ← nums_intItems, ← e]
 have zy : 0 < ys.size := by
  have q : 0 < ns.length := List.length_pos_iff.mpr hz
  rwa [en, List.length_map, Array.length_toList] at q
 rw [e] at hl
 refine q5K hh hl zy λ v h1 tk q k => ?_
 obtain ⟨t, ev⟩ := intItems_at q
 subst ev
 obtain ⟨g1, g2⟩ := argBest_lt (numAt ys) (ys.size - 1)
 refine h h1 _ t tk k ?_ λ a ha => ?_
 ·rw [en, numAt_eq]
  exact z1O (by rw [List.length_map, Array.length_toList]; omega)
 ·rw [en] at ha
  obtain ⟨j, hj, ej⟩ := mem_getD ha
  subst ej
  rw [List.length_map, Array.length_toList] at hj
  rw [← numAt_eq]
  exact g2 j (by omega)
end
section
variable {X : Cx}
theorem q8a (hc : X.calm = true) : q1L X (.builtin "min") (λ xs H Q => ∃ (a : Addr) (ns : List Int), xs = [.ref a] /\ SqT X.K H a (ns.map V.int) /\ ns ≠ [] /\ ∀ M, M ∈ ns -> (∀ x ∈ ns, M <= x) -> Q (.int M) H) := by
 intro pins s σ H xs us Q I r h
 obtain ⟨a, ns, rfl, hq, hz, q⟩ := h
 obtain ⟨u, rfl, r1⟩ := q5M r
 cases r1
 obtain ⟨its, rv, pl, _⟩ := I.tuple hq
 exact minT (I.ok.hd hc) pl (q9L rv) hz λ h' M t tk k m1 m2 => ⟨.int M, H, I.kept k, ⟨t, rfl⟩, q M m1 m2⟩
end
end L2
end
section
namespace L2
open PySem PySem.Spec PySem.Calls PyProof.Rows PySem.W
noncomputable def z1F (prog : Program) (w : World) (A : Around) (P : Nat -> Value -> Prop) (St : Nat -> Heap -> Prop) (bt : Nat -> Nat -> Bool) : Prop :=
 ∀ k i j vi vj (s : Shared) (Q : Value -> Shared -> Prop) (E : Value -> Shared -> Prop), St k s.heap -> P i vi -> P j vj -> Q (.bool (bt i j)) s -> wpAny (model prog w) A (richCompare .Lt vi vj) Q E s
section
variable {prog : Program} {w : World} {A : Around} {R : Result -> Shared -> Prop} {I : Addr} {fp wr : List Addr} {n : Nat} {P : Nat -> Value -> Prop} {St : Nat -> Heap -> Prop}
theorem q8J (W : Walks prog w A.in1 I fp wr n P St) (bt : Nat -> Nat -> Bool) (hcmp : z1F prog w A.in1 P St bt) (S : Addr) (hSf : S ∉ fp) :
  ∀ (k j : Nat) (s : Shared) (vb : Value) (c : Nat), n - (j + 1) = k -> j + 1 <= n -> St (j + 1) s.heap -> P (argBest bt j) vb ->
  s.heap.get? S = some { cls := .type "list", dict := none, data := .seq #[vb, vb] c, slots := #[] } ->
  (∀ v h' tk, P (argBest bt (n - 1)) v -> (∀ b o, b ∉ wr -> b ≠ S -> s.heap.get? b = some o -> h'.get? b = some o) -> R (.ok (.ret v)) { s with heap := h', toks := tk }) ->
  codeAny (model prog w) A (.builtin "min.loop" ⟨[.ref I, .none, .ref S], []⟩) R s := by
 have hSw : S ∉ wr := λ h => hSf (W.sub _ h)
 have hname : (toString "min" ++ toString ".loop" : String) = "min.loop" := by decide
 intro k
 induction k with
 | zero =>
  intro j s vb c hk hj hst hPb hS hR
  have hin : j + 1 = n := by omega
  refine codeAny_builtin F.entry_min_loop ?_
  rw [Around.under_plainId F.plain_min_loop _]
  show wpAny _ A.in1 (seqItems? (.ref S) >>= _) _ _ s
  refine wpAny_bind (wpAny_seqItems hS rfl ?_)
  show wpAny _ A.in1 (tryCatch (pyNext (.ref I)) _ >>= _) _ _ s
  refine wpAny_bind (wpAny_tryCatch (W.done s _ _ (hin ▸ hst) λ h' tk hk' => ?_))
  have hS' := hk' S _ hSw hS
  show wpAny _ A.in1 (updateSeq S (λ _ => #[]) >>= _) _ _ _
  refine wpAny_bind ?_
  refine wpAny_updateSeq hS' rfl (wpAny_bind (wpAny_letGo (wpAny_pure ?_)))
  exact hR vb _ tk (by rw [← hin]; exact hPb) λ b o hbw hbS e => (Heap.get?_update_other _ _ (Ne.symm hbS)).trans (hk' b o hbw e)
 | succ k ih =>
  intro j s vb c hk hj hst hPb hS hR
  have hlt : j + 1 < n := by omega
  refine codeAny_builtin F.entry_min_loop ?_
  rw [Around.under_plainId F.plain_min_loop _]
  show wpAny _ A.in1 (seqItems? (.ref S) >>= _) _ _ s
  refine wpAny_bind (wpAny_seqItems hS rfl ?_)
  show wpAny _ A.in1 (tryCatch (pyNext (.ref I)) _ >>= _) _ _ s
  refine wpAny_bind (wpAny_tryCatch (W.item (j + 1) s _ _ hlt hst λ v h' tk hP hst' hk' => ?_))
  have hS' := hk' S _ hSw hS
  show wpAny _ A.in1 (tryCatch (holding [v, v] (richCompare .Lt v vb >>= _)) _ >>= _) _ _ _
  refine wpAny_bind (wpAny_tryCatch (wpAny_holding (wpAny_bind (hcmp _ (j + 1) (argBest bt j) v vb _ _ _ hst' hP hPb ?_))))
  refine wpAny_bind (wpAny_holding (wpAny_truthy_bool ?_))
  refine wpAny_bind (wpAny_letGo (wpAny_pure ?_))
  cases hb : bt (j + 1) (argBest bt j) with
  | true =>
   simp only [if_true]
   refine wpAny_bind ?_
   refine wpAny_updateSeq hS' rfl (wpAny_bind (wpAny_letGo ?_))
   rw [hname]
   refine wpAny_pure ⟨plainId_quiet F.plain_min_loop _, ih (j + 1) _ v _ (by omega) hlt (W.frame _ _ _ hst' λ b hbf o e => ?_) (by simp only [argBest, hb, if_true]; exact hP) (Heap.get?_update_self _ hS' rfl)
    λ v' h'' tk'' hP' hk'' => ?_⟩
   ·exact (Heap.get?_update_other _ _ (λ h : S = b => hSf (by rw [h]; exact hbf))).trans e
   ·exact hR v' h'' tk'' hP' λ b o hbw hbS e => hk'' b o hbw hbS ((Heap.get?_update_other _ _ (Ne.symm hbS)).trans (hk' b o hbw e))
  | false =>
   simp only [Bool.false_eq_true, if_false]
   refine wpAny_bind (wpAny_letGo ?_)
   rw [hname]
   refine wpAny_pure ⟨plainId_quiet F.plain_min_loop _, ih (j + 1) _ vb c (by omega) hlt hst' (by simp only [argBest, hb, Bool.false_eq_true, if_false]; exact hPb) hS' λ v' h'' tk'' hP' hk'' => ?_⟩
   exact hR v' h'' tk'' hP' λ b o hbw hbS e => hk'' b o hbw hbS (hk' b o hbw e)
theorem q8H (W : Walks prog w A.in1 I fp wr n P St) (bt : Nat -> Nat -> Bool) (hcmp : z1F prog w A.in1 P St bt) (S : Addr) (hSf : S ∉ fp) (hn : 0 < n) {s : Shared} {c : Nat} (hst : St 0 s.heap)
  (hS : s.heap.get? S = some { cls := .type "list", dict := none, data := .seq #[] c, slots := #[] })
  (hR : ∀ v h' tk, P (argBest bt (n - 1)) v -> (∀ b o, b ∉ wr -> b ≠ S -> s.heap.get? b = some o -> h'.get? b = some o) -> R (.ok (.ret v)) { s with heap := h', toks := tk }) :
  codeAny (model prog w) A (.builtin "min.loop" ⟨[.ref I, .none, .ref S], []⟩) R s := by
 have hSw : S ∉ wr := λ h => hSf (W.sub _ h)
 have hname : (toString "min" ++ toString ".loop" : String) = "min.loop" := by decide
 refine codeAny_builtin F.entry_min_loop ?_
 rw [Around.under_plainId F.plain_min_loop _]
 show wpAny _ A.in1 (seqItems? (.ref S) >>= _) _ _ s
 refine wpAny_bind (wpAny_seqItems hS rfl ?_)
 show wpAny _ A.in1 (tryCatch (pyNext (.ref I)) _ >>= _) _ _ s
 refine wpAny_bind (wpAny_tryCatch (W.item 0 s _ _ hn hst λ v h' tk hP hst' hk' => ?_))
 have hS' := hk' S _ hSw hS
 show wpAny _ A.in1 (updateSeq S (λ _ => #[v, v]) >>= _) _ _ _
 refine wpAny_bind ?_
 refine wpAny_updateSeq hS' rfl ?_
 rw [hname]
 refine wpAny_pure ⟨plainId_quiet F.plain_min_loop _, q8J W bt hcmp S hSf _ 0 _ v _ rfl hn (W.frame _ _ _ hst' λ b hbf o e => ?_) hP (Heap.get?_update_self _ hS' rfl) λ v' h'' tk'' hP' hk'' => ?_⟩
 ·exact (Heap.get?_update_other _ _ (λ h : S = b => hSf (by rw [h]; exact hbf))).trans e
 ·exact hR v' h'' tk'' hP' λ b o hbw hbS e => hk'' b o hbw hbS ((Heap.get?_update_other _ _ (Ne.symm hbS)).trans (hk' b o hbw e))
end
section
variable {prog : Program} {w : World} {A : Around} {E : Value -> Shared -> Prop} {s : Shared}
theorem q6V {x : Value} {Q : Value -> Shared -> Prop}
  (h : wpAny (model prog w) A.in1 (pyIter x) (λ it s₂ => ∃ I fp wr n P St bt, it = .ref I /\ Walks prog w A.in1 I fp wr n P St /\ St 0 s₂.heap /\ (∀ b ∈ fp, b < s₂.heap.objs.size) /\ 0 < n /\ z1F prog w A.in1 P St bt /\
   ∀ v h' tk, P (argBest bt (n - 1)) v -> (∀ b o, b ∉ wr -> s₂.heap.get? b = some o -> h'.get? b = some o) -> Q v { s₂ with heap := h', toks := tk }) E s) :
  wpAny (model prog w) A (call (.builtin "min") [x]) Q E s := by
 have hname : (toString "min" ++ toString ".loop" : String) = "min.loop" := by decide
 refine call_function_tree F.kind_min F.plain_min F.entry_min (F.args_min1 _) ?_
 show wpAny _ A.in1 (Builtin.Builtins.bindParams "min" ["key", "default"] 0 ⟨[], []⟩ >>= _) _ _ s
 refine wpAny_bind (wpAny_of_eq (show Builtin.Builtins.bindParams "min" ["key", "default"] 0 ⟨[], []⟩ = pure [none, none] from rfl) ?_)
 refine wpAny_bind (wpAny_pure ?_)
 refine wpAny_bind (wpAny_mono h (λ it s₂ h₂ => ?_) λ _ _ e => e)
 obtain ⟨I, fp, wr, n, P, St, bt, rfl, W, hst, hfp, hn, hcmp, hQ⟩ := h₂
 refine wpAny_bind (wpAny_newObj_type ?_)
 have hSf : s₂.heap.objs.size ∉ fp := λ hm => Nat.lt_irrefl _ (hfp _ hm)
 rw [hname]
 refine wpAny_pure ⟨plainId_quiet F.plain_min_loop _, q8H W bt hcmp s₂.heap.objs.size hSf hn (W.frame _ _ _ hst λ b _ o e => Heap.get?_push_of_some _ e) (Heap.get?_push_size _ rfl) λ v h' tk hP hk => ?_⟩
 exact hQ v h' tk hP λ b o hbw e => hk b o hbw (Nat.ne_of_lt (Heap.lt_size e)) (Heap.get?_push_of_some _ e)
theorem Walks.know {I : Addr} {fp wr ts : List Addr} {n : Nat} {P : Nat -> Value -> Prop} {St : Nat -> Heap -> Prop} (W : Walks prog w A I fp wr n P St) (K : Heap -> Prop) (hK : ∀ h h', K h -> (∀ b ∈ ts, ∀ o, h.get? b = some o -> h'.get? b = some o) -> K h') (hd : ∀ t ∈ ts, t ∉ wr) :
  Walks prog w A I (fp ++ ts) wr n P (λ i h => St i h /\ K h) where
 sub := λ b hb => List.mem_append_left _ (W.sub b hb)
 frame := λ i h h' st k => ⟨W.frame i h h' st.1 λ b hb => k b (List.mem_append_left _ hb), hK h h' st.2 λ b hb => k b (List.mem_append_right _ hb)⟩
 item := λ i s Q E hi st hQ => W.item i s Q E hi st.1 λ v h' tk hP hst hk => hQ v h' tk hP ⟨hst, hK _ _ st.2 λ b hb o e => hk b o (hd b hb) e⟩ hk
 done := λ s Q E st hQ => W.done s Q E st.1 hQ
 self := λ i s Q E st hQ => W.self i s Q E st.1 hQ
noncomputable def TrAt (h : Heap) (v : Value) (p : Int × Int × Int) : Prop := ∃ a o n t1 t2 t3, v = .ref a /\ h.get? a = some o /\ o.cls = .type "tuple" /\ o.data = .seq #[.int p.1 t1, .int p.2.1 t2, .int p.2.2 t3] n
theorem q8g (hA : A.units < cLine) {u v : Value} {p q : Int × Int × Int} {Q : Value -> Shared -> Prop} (hu : TrAt s.heap u p) (hv : TrAt s.heap v q) (h : Q (.bool (ltT p q)) s) : wpAny (model prog w) A (richCompare .Lt u v) Q E s := by
 obtain ⟨a, oa, na, t1, t2, t3, rfl, ea, ca, da⟩ := hu
 obtain ⟨b, ob, nb, u1, u2, u3, rfl, eb, cb, db⟩ := hv
 have Ta : s.TypeIs (.ref a) "tuple" := ⟨oa, ea, ca⟩
 have Tb : s.TypeIs (.ref b) "tuple" := ⟨ob, eb, cb⟩
 refine wpAny_richCompare_same_room (op := .Lt) Ta Tb F.slot_tuple_lt (wpAny_call_entry F.slot_tuple_lt Ta F.entry_tuple_lt ?_ (F.args_tuple_lt_2 _ _)) hA
 show wpAny _ _ (isInstance (.ref b) (.type "tuple") >>= _) _ _ s
 refine wpAny_bind (wpAny_isInstance Tb isSubtype_tuple_tuple ?_)
 simp only [Bool.not_true, Bool.false_eq_true, if_false]
 refine wpAny_bind (wpAny_tupleItemsOf ea da ?_)
 refine wpAny_bind (wpAny_tupleItemsOf eb db ?_)
 refine wpAny_bind ?_
 show wpAny _ _ (forIn [(Value.int p.1 t1, Value.int q.1 u1), (Value.int p.2.1 t2, Value.int q.2.1 u2), (Value.int p.2.2 t3, Value.int q.2.2 u3)] _ _) _ _ s
 unfold ltT at h
 rw [List.forIn_cons]
 refine wpAny_bind (wpAny_bind (wpAny_eqBool_int ?_))
 by_cases h1 : p.1 = q.1
 ·rw [show (p.1 == q.1) = true from beq_iff_eq.mpr h1]
  rw [show (p.1 == q.1) = true from beq_iff_eq.mpr h1, decide_eq_false (show ¬ p.1 < q.1 by omega), Bool.false_or, Bool.true_and] at h
  simp only [Bool.not_true, Bool.false_eq_true, if_false]
  refine wpAny_pure ?_
  dsimp only
  rw [List.forIn_cons]
  refine wpAny_bind (wpAny_bind (wpAny_eqBool_int ?_))
  by_cases h2 : p.2.1 = q.2.1
  ·rw [show (p.2.1 == q.2.1) = true from beq_iff_eq.mpr h2]
   rw [show (p.2.1 == q.2.1) = true from beq_iff_eq.mpr h2, decide_eq_false (show ¬ p.2.1 < q.2.1 by omega), Bool.false_or, Bool.true_and] at h
   simp only [Bool.not_true, Bool.false_eq_true, if_false]
   refine wpAny_pure ?_
   dsimp only
   rw [List.forIn_cons]
   refine wpAny_bind (wpAny_bind (wpAny_eqBool_int ?_))
   by_cases h3 : p.2.2 = q.2.2
   ·rw [show (p.2.2 == q.2.2) = true from beq_iff_eq.mpr h3]
    rw [decide_eq_false (show ¬ p.2.2 < q.2.2 by omega)] at h
    simp only [Bool.not_true, Bool.false_eq_true, if_false]
    refine wpAny_pure ?_
    dsimp only
    rw [List.forIn_nil]
    refine wpAny_pure ?_
    dsimp only
    refine wpAny_pure ⟨_, rfl, (λ e => nomatch e), ?_⟩
    exact h
   ·rw [show (p.2.2 == q.2.2) = false from beq_eq_false_iff_ne.mpr h3]
    simp only [Bool.not_false, if_true]
    refine wpAny_bind (wpAny_rule (wpAny_bind (show wpAny (model prog w) _ (compareOp .Lt _ _) _ _ _ from wpAny_lt_int (wpAny_bind (wpAny_pure (wpAny_pure ?_))))))
    dsimp only
    refine wpAny_pure ?_
    dsimp only
    exact wpAny_pure ⟨_, rfl, (λ e => nomatch e), h⟩
  ·rw [show (p.2.1 == q.2.1) = false from beq_eq_false_iff_ne.mpr h2]
   rw [show (p.2.1 == q.2.1) = false from beq_eq_false_iff_ne.mpr h2, Bool.false_and, Bool.or_false] at h
   simp only [Bool.not_false, if_true]
   refine wpAny_bind (wpAny_rule (wpAny_bind (show wpAny (model prog w) _ (compareOp .Lt _ _) _ _ _ from wpAny_lt_int (wpAny_bind (wpAny_pure (wpAny_pure ?_))))))
   dsimp only
   refine wpAny_pure ?_
   dsimp only
   exact wpAny_pure ⟨_, rfl, (λ e => nomatch e), h⟩
 ·rw [show (p.1 == q.1) = false from beq_eq_false_iff_ne.mpr h1]
  rw [show (p.1 == q.1) = false from beq_eq_false_iff_ne.mpr h1, Bool.false_and, Bool.or_false] at h
  simp only [Bool.not_false, if_true]
  refine wpAny_bind (wpAny_rule (wpAny_bind (show wpAny (model prog w) _ (compareOp .Lt _ _) _ _ _ from wpAny_lt_int (wpAny_bind (wpAny_pure (wpAny_pure ?_))))))
  dsimp only
  refine wpAny_pure ?_
  dsimp only
  exact wpAny_pure ⟨_, rfl, (λ e => nomatch e), h⟩
noncomputable def q3r (h : Heap) : List Value -> List (Int × Int × Int) -> Prop
 | [], [] => True
 | v :: vs, p :: ps => TrAt h v p /\ q3r h vs ps
 | _, _ => False
noncomputable def q5z : List Value -> List Addr
 | [] => []
 | .ref a :: vs => a :: q5z vs
 | _ :: vs => q5z vs
theorem q3r.len {h : Heap} : ∀ {vs : List Value} {ps : List (Int × Int × Int)}, q3r h vs ps -> vs.length = ps.length
 | [], [], _ => rfl
 | _ :: _, _ :: _, x => by rw [List.length_cons, List.length_cons, x.2.len]
 | [], _ :: _, x => x.elim
 | _ :: _, [], x => x.elim
theorem q3r.keep {h h' : Heap} : ∀ {vs : List Value} {ps : List (Int × Int × Int)}, q3r h vs ps -> (∀ b ∈ q5z vs, ∀ o, h.get? b = some o -> h'.get? b = some o) -> q3r h' vs ps
 | [], [], _, _ => trivial
 | _ :: _, _ :: _, x, k => by
  obtain ⟨⟨a, o, n, t1, t2, t3, rfl, e, c, d⟩, y⟩ := x
  exact ⟨⟨a, o, n, t1, t2, t3, rfl, k a (List.mem_cons_self ..) o e, c, d⟩, y.keep λ b hb => k b (List.mem_cons_of_mem _ hb)⟩
 | [], _ :: _, x, _ => x.elim
 | _ :: _, [], x, _ => x.elim
theorem q3r.get {h : Heap} : ∀ {vs : List Value} {ps : List (Int × Int × Int)} {i : Nat} {v : Value}, q3r h vs ps -> vs[i]? = some v -> TrAt h v (ps.getD i (0, 0, 0))
 | [], [], _, _, _, e => by simp at e
 | _ :: _, _ :: _, 0, _, x, e => by
  have : _ = _ := Option.some.inj e
  subst this
  exact x.1
 | _ :: _, _ :: _, i + 1, _, x, e => x.2.get (by simpa using e)
 | [], _ :: _, _, _, x, _ => x.elim
 | _ :: _, [], _, _, x, _ => x.elim
theorem q3r.lt {h : Heap} : ∀ {vs : List Value} {ps : List (Int × Int × Int)}, q3r h vs ps -> ∀ b ∈ q5z vs, b < h.objs.size
 | [], [], _, _, hb => nomatch hb
 | _ :: _, _ :: _, x, b, hb => by
  obtain ⟨⟨a, o, n, t1, t2, t3, rfl, e, c, d⟩, y⟩ := x
  rcases List.mem_cons.mp hb with rfl | hb
  ·exact Heap.lt_size e
  ·exact y.lt b hb
 | [], _ :: _, x, _, _ => x.elim
 | _ :: _, [], x, _, _ => x.elim
theorem q4I (x : Int × Int × Int) : ∀ (m : Int × Int × Int) (l : List (Int × Int × Int)), q5e m (l ++ [x]) = if ltT x (q5e m l) then x else q5e m l
 | m, [] => rfl
 | m, y :: l => q4I x (if ltT y m then y else m) l
theorem q6K (p : Int × Int × Int) (r : List (Int × Int × Int)) : ∀ k, k <= r.length -> (p :: r).getD (argBest (λ i j => ltT ((p :: r).getD i (0, 0, 0)) ((p :: r).getD j (0, 0, 0))) k) (0, 0, 0) = q5e p (r.take k)
 | 0, _ => by rw [List.take_zero]; rfl
 | k + 1, h => by
  have q := q6K p r k (by omega)
  have e : r.take (k + 1) = r.take k ++ [r[k]] := by rw [List.take_append_getElem]
  have e2 : (p :: r).getD (k + 1) (0, 0, 0) = r[k] := by
   rw [List.getD_eq_getElem?_getD, List.getElem?_cons_succ, List.getElem?_eq_getElem (by omega)]
   rfl
  rw [e, q4I]
  unfold argBest
  rw [q, e2]
  cases ltT r[k] (q5e p (r.take k)) with
  | true => rw [if_pos rfl, if_pos rfl]; exact e2
  | false => rw [if_neg Bool.false_ne_true, if_neg Bool.false_ne_true]; exact q
theorem q5X {l : Addr} {vs : List Value} {p : Int × Int × Int} {r : List (Int × Int × Int)} {Q : Value -> Shared -> Prop} (hh : A.handled = none) (hA : A.units + 1 < cLine) (hl : s.heap.IsList l vs.toArray) (hp : q3r s.heap vs (p :: r))
  (h : ∀ i v h' tk, vs[i]? = some v -> (p :: r).getD i (0, 0, 0) = q5e p r -> i < (p :: r).length -> (∀ b o, s.heap.get? b = some o -> h'.get? b = some o) -> Q v { s with heap := h', toks := tk }) :
  wpAny (model prog w) A (call (.builtin "min") [.ref l]) Q E s := by
 have hlt : l < s.heap.objs.size := by obtain ⟨_, e, _⟩ := hl; exact Heap.lt_size e
 have hz := hp.len
 rw [List.length_cons] at hz
 refine q6V (wpAny_pyIter_list hl ?_)
 refine ⟨_, _, _, _, _, _, λ i j => ltT ((p :: r).getD i (0, 0, 0)) ((p :: r).getD j (0, 0, 0)), rfl, Walks.know (ts := q5z vs) (Walks.list (A := A.in1) hh s.heap.objs.size l (Nat.ne_of_lt hlt) vs.toArray) (λ h => q3r h vs (p :: r)) (λ h h' x k => x.keep k) (λ t ht z => ?_),
  ⟨⟨⟨_, Heap.get?_push_size _ rfl, rfl, rfl⟩, hl.push _⟩, hp.keep λ b hb o e => Heap.get?_push_of_some _ e⟩, λ b hb => ?_, by simp; omega, λ k i j vi vj s' Q' E' st hi hj q => ?_, λ v h' tk hP hk => ?_⟩
 ·have := hp.lt t ht
  rw [List.mem_singleton.mp z] at this
  exact Nat.lt_irrefl _ this
 ·show b < (s.heap.push _).objs.size
  rw [Heap.size_push]
  rcases List.mem_append.mp hb with hb | hb
  ·rcases List.mem_cons.mp hb with rfl | hb
   ·exact Nat.lt_succ_self _
   ·rcases List.mem_cons.mp hb with rfl | hb
    ·exact Nat.lt_succ_of_lt hlt
    ·cases hb
  ·exact Nat.lt_succ_of_lt (hp.lt b hb)
 ·have hi' : vs[i]? = some vi := by simpa using hi
  have hj' : vs[j]? = some vj := by simpa using hj
  exact q8g hA (st.2.get hi') (st.2.get hj') q
 ·have hsz : vs.toArray.size - 1 = r.length := by rw [List.size_toArray]; omega
  have hP' : vs[argBest (λ i j => ltT ((p :: r).getD i (0, 0, 0)) ((p :: r).getD j (0, 0, 0))) (vs.toArray.size - 1)]? = some v := by simpa using hP
  rw [hsz] at hP'
  have hb := q6K p r r.length (Nat.le_refl _)
  rw [List.take_length] at hb
  refine h _ v h' tk hP' hb ?_ λ b o e => hk b o (λ hm => ?_) (Heap.get?_push_of_some _ e)
  ·have := (List.getElem?_eq_some_iff.mp hP').1
   rw [List.length_cons]; omega
  ·rw [List.mem_singleton.mp hm] at e
   exact absurd (Heap.lt_size e) (Nat.lt_irrefl _)
end
end L2
end
section
namespace L2
open PySem PySem.Spec PyProof.Rows
variable {X : Cx}
noncomputable def TrsV (K : PySem.W.Frag) (H : Hp) : List V -> List (Int × Int × Int) -> Prop
 | [], [] => True
 | v :: vs, p :: ps => (∃ a, v = .ref a /\ SqT K H a [.int p.1, .int p.2.1, .int p.2.2]) /\ TrsV K H vs ps
 | _, _ => False
theorem z4R {x y z : V} {us : List Value} (h : Vals [x, y, z] us) : ∃ u v w, us = [u, v, w] /\ RelV x u /\ RelV y v /\ RelV z w := by
 cases h with
 | cons r t =>
  obtain ⟨v, w, rfl, r2, r3⟩ := q6e t
  exact ⟨_, v, w, rfl, r, r2, r3⟩
theorem TrsV.at {pins : List (Addr × Obj)} {σ : St} {H : Hp} {s : Shared} (I : Inv X pins σ H s) : ∀ {vs : List V} {ps : List (Int × Int × Int)} {its : List Value}, TrsV X.K H vs ps -> Vals vs its -> q3r s.heap its ps
 | [], [], its, _, r => by cases r; exact trivial
 | _ :: _, p :: ps, its, x, r => by
  obtain ⟨⟨a, rfl, h1⟩, h2⟩ := x
  cases its with
  | nil => cases r
  | cons u us =>
   cases r
   rename_i r1 r2
   cases r1
   obtain ⟨its2, rv, ⟨o, e1, e2, n, e3⟩, _⟩ := I.tuple h1
   obtain ⟨u1, u2, u3, rfl, ⟨t, rfl⟩, ⟨t', rfl⟩, ⟨t2, rfl⟩⟩ := z4R rv
   exact ⟨⟨a, o, n, t, t', t2, rfl, e1, e2, e3⟩, h2.at I r2⟩
 | [], _ :: _, _, x, _ => x.elim
 | _ :: _, [], _, x, _ => x.elim
theorem q8P : ∀ {xs : List V} {us : List Value} {i : Nat} {u : Value}, Vals xs us -> us[i]? = some u -> ∃ x, xs[i]? = some x /\ RelV x u
 | _, _, 0, _, .cons r _, e => by cases e; exact ⟨_, rfl, r⟩
 | _, _, i + 1, _, .cons _ t, e => by
  obtain ⟨x, h1, h2⟩ := q8P (i := i) t (by simpa using e)
  exact ⟨x, by simpa using h1, h2⟩
 | _, _, _, _, .nil, e => by simp at e
theorem q8B (hc : X.calm = true) (hu : X.A.units + 1 < cLine) : q1L X (.builtin "min") (λ xs H Q => ∃ (a : Addr) (vs : List V) (p : Int × Int × Int) (r : List (Int × Int × Int)), xs = [.ref a] /\ SqL X.K H a vs /\ TrsV X.K H vs (p :: r) /\
  ∀ i v, vs[i]? = some v -> (p :: r).getD i (0, 0, 0) = q5e p r -> i < (p :: r).length -> Q v H) := by
 intro pins s σ H xs us Q I r h
 obtain ⟨a, vs, p, ps, rfl, hq, hp, q⟩ := h
 obtain ⟨u, rfl, r1⟩ := q5M r
 cases r1
 obtain ⟨its, rv, pl, _⟩ := I.list hq
 refine q5X (I.ok.hd hc) hu pl.isList (hp.at I rv) λ i v h' tk e1 e2 e3 k => ?_
 obtain ⟨x, f1, f2⟩ := q8P rv e1
 exact ⟨x, H, I.kept k, f2, q i x f1 e2 e3⟩
end L2
end
section
namespace L2
open PySem
structure Sg where
 N : List Str
 sc : List (Str × NameKind)
 fn : List Str
 bl : List Str
 cl : List Str
 top : Bool
 lp : Bool
noncomputable def q7I : List Str := ["ValueError"]
noncomputable def q1c : Expr -> Option Str | .Name x _ => some x | _ => none
noncomputable def q2S : Expr -> Option Const | .Constant c _ _ => some c | _ => none
noncomputable def z1C : Expr -> Option (Expr × Operator × Expr) | .BinOp a o b _ => some (a, o, b) | _ => none
noncomputable def asUn : Expr -> Option (UnaryOp × Expr) | .UnaryOp o a _ => some (o, a) | _ => none
noncomputable def q9m : Expr -> Option (Expr × List CmpOp × List Expr) | .Compare a o b _ => some (a, o, b) | _ => none
noncomputable def q6I : Expr -> Option (BoolOp × List Expr) | .BoolOp o es _ => some (o, es) | _ => none
noncomputable def q7s : Expr -> Option (List Expr) | .List es _ => some es | _ => none
noncomputable def q2M : Expr -> Option (List Expr) | .Tuple es _ _ => some es | _ => none
noncomputable def q8h : Expr -> Option (Expr × Expr) | .Subscript a b _ => some (a, b) | _ => none
noncomputable def q6c : Expr -> Option (Option Expr × Option Expr × Option Expr) | .Slice a b c _ => some (a, b, c) | _ => none
noncomputable def q2f : Expr -> Option (Expr × List Expr × List Keyword × Pos) | .Call f as ks p => some (f, as, ks, p) | _ => none
noncomputable def q6D : Expr -> Option (Expr × Str × Pos) | .Attribute a n p => some (a, n, p) | _ => none
noncomputable def q7L : Expr -> Option (Expr × List Comprehension × Scope) | .ListComp e gs sc _ => some (e, gs, sc) | _ => none
noncomputable def q0x : Expr -> Bool | .Starred _ _ => true | _ => false
noncomputable def q4L : Expr -> Bool | .Slice _ _ _ _ => true | _ => false
noncomputable def q2N : Expr -> Bool | .Set _ _ _ => true | _ => false
noncomputable def q3z : Expr -> Bool | .ListComp _ _ _ _ => true | .SetComp _ _ _ _ => true | .DictComp _ _ _ _ _ => true | _ => false
theorem q0p {e : Expr} {x : Str} (h : q1c e = some x) : ∃ p, e = .Name x p := by
 cases e <;> simp [q1c] at h; subst h; exact ⟨_, rfl⟩
theorem q4G {e : Expr} {x : Const} (h : q2S e = some x) : ∃ k p, e = .Constant x k p := by
 cases e <;> simp [q2S] at h; subst h; exact ⟨_, _, rfl⟩
theorem q6A {e a b : Expr} {o : Operator} (h : z1C e = some (a, o, b)) : ∃ p, e = .BinOp a o b p := by
 cases e <;> simp [z1C] at h; obtain ⟨rfl, rfl, rfl⟩ := h; exact ⟨_, rfl⟩
theorem q4N {e a : Expr} {o : UnaryOp} (h : asUn e = some (o, a)) : ∃ p, e = .UnaryOp o a p := by
 cases e <;> simp [asUn] at h; obtain ⟨rfl, rfl⟩ := h; exact ⟨_, rfl⟩
theorem q3P {e a : Expr} {os : List CmpOp} {bs : List Expr} (h : q9m e = some (a, os, bs)) : ∃ p, e = .Compare a os bs p := by
 cases e <;> simp [q9m] at h; obtain ⟨rfl, rfl, rfl⟩ := h; exact ⟨_, rfl⟩
theorem q3b {e : Expr} {o : BoolOp} {es : List Expr} (h : q6I e = some (o, es)) : ∃ p, e = .BoolOp o es p := by
 cases e <;> simp [q6I] at h; obtain ⟨rfl, rfl⟩ := h; exact ⟨_, rfl⟩
theorem q5L {e : Expr} {es : List Expr} (h : q7s e = some es) : ∃ p, e = .List es p := by
 cases e <;> simp [q7s] at h; subst h; exact ⟨_, rfl⟩
theorem q2L {e : Expr} {es : List Expr} (h : q2M e = some es) : ∃ k p, e = .Tuple es k p := by
 cases e <;> simp [q2M] at h; subst h; exact ⟨_, _, rfl⟩
theorem q3a {e a b : Expr} (h : q8h e = some (a, b)) : ∃ p, e = .Subscript a b p := by
 cases e <;> simp [q8h] at h; obtain ⟨rfl, rfl⟩ := h; exact ⟨_, rfl⟩
theorem q7m {e : Expr} {a b c : Option Expr} (h : q6c e = some (a, b, c)) : ∃ p, e = .Slice a b c p := by
 cases e <;> simp [q6c] at h; obtain ⟨rfl, rfl, rfl⟩ := h; exact ⟨_, rfl⟩
theorem q0R {e f : Expr} {as : List Expr} {ks : List Keyword} {p : Pos} (h : q2f e = some (f, as, ks, p)) : e = .Call f as ks p := by
 cases e <;> simp [q2f] at h; obtain ⟨rfl, rfl, rfl, rfl⟩ := h; rfl
theorem q5x {e a : Expr} {n : Str} {p : Pos} (h : q6D e = some (a, n, p)) : e = .Attribute a n p := by
 cases e <;> simp [q6D] at h; obtain ⟨rfl, rfl, rfl⟩ := h; rfl
theorem q7n {e x : Expr} {gs : List Comprehension} {sc : Scope} (h : q7L e = some (x, gs, sc)) : ∃ p, e = .ListComp x gs sc p := by
 cases e <;> simp [q7L] at h; obtain ⟨rfl, rfl, rfl⟩ := h; exact ⟨_, rfl⟩
noncomputable def visB (sg : Sg) (x : Str) : Bool := sg.sc.lookup x == some .local || sg.sc.lookup x == some .cell || sg.sc.lookup x == some .free
noncomputable def gloB (sg : Sg) (x : Str) : Bool := sg.sc.lookup x == some .globalImplicit
noncomputable def locB (sg : Sg) (x : Str) : Bool := sg.sc.lookup x == some .local || sg.sc.lookup x == some .cell
noncomputable def q6k (sg : Sg) (i : Nat) (x : Str) : Bool := sg.N[i]? == some x && visB sg x && x != "__debug__" && x != "__classdict__"
noncomputable def bltB (sg : Sg) (x : Str) (f : Expr) : Bool := q1c f == some x && gloB sg x && sg.bl.contains x
noncomputable def z3j : Bi -> Str
 | .len => "len" | .abs => "abs" | .min => "min" | .max => "max" | .sum => "sum" | .any => "any" | .all => "all" | .sorted => "sorted" | .sset => "sorted" | .lset => "len"
 | .int => "int" | .list => "list" | .tuple => "tuple" | .str => "str" | .lrng => "list" | .lsti => "list"
structure CParts where
 elt : Expr
 tg : Expr
 it : Expr
 ifs : List Expr
 sc : Scope
noncomputable def q4z (e : Expr) : Option CParts := match q7L e with
 | some (elt, [⟨tg, it, ifs, a⟩], sc) => if a = 0 then some ⟨elt, tg, it, ifs, sc⟩ else none
 | _ => none
theorem q4k {e : Expr} {c : CParts} (h : q4z e = some c) : ∃ p, e = .ListComp c.elt [⟨c.tg, c.it, c.ifs, 0⟩] c.sc p := by
 unfold q4z at h
 split at h
 ·rename_i elt tg it ifs a sc q
  split at h
  ·rename_i ha
   cases h
   subst ha
   exact q7n q
  ·cases h
 ·cases h
noncomputable def q1z (sg : Sg) (tn : List Str) (fr : List (Option Nat)) : List Str := tn ++ (fr.drop tn.length).map λ o => match o with | some i => sg.N.getD i "" | none => ""
noncomputable def q7T : Tg -> Expr -> Option (List Str)
 | .one _, e => (q1c e).map λ x => [x]
 | .many is, e => match q2M e with
  | some es => if es.length = is.length then es.mapM q1c else none
  | none => none
noncomputable def tgOk (sg : Sg) : Tg -> Expr -> Bool
 | .one i, e => match q1c e with
  | some x => sg.N[i]? == some x && locB sg x
  | none => false
 | .many is, e => match q2M e with
  | some es => es.length == is.length && 2 <= es.length && (is.zip es).all λ p => match q1c p.2 with
   | some x => sg.N[p.1]? == some x && locB sg x
   | none => false
  | none => false
noncomputable def q3Y : List Str -> Bool
 | [] => true
 | x :: r => !r.contains x && q3Y r
noncomputable def q2W : Tg -> List Nat
 | .one i => [i]
 | .many is => is
noncomputable def q2X (sg : Sg) (N' : List Str) (fr : List (Option Nat)) (sc : Scope) (tg : Tg) : Bool := (q2W tg).all (λ i => fr[i]? == some none) &&
 sc.kind == .function && q3Y N' && q3Y (sc.names.map (·.1)) && fr.length == N'.length &&
 (fr.zip N').all (λ p => match p.1 with | some i => sg.N[i]? == some p.2 && sc.names.contains (p.2, .free) | none => true) &&
 sc.names.all λ y => if y.2 == .free then sg.sc.lookup y.1 == some .cell || sg.sc.lookup y.1 == some .free else true
noncomputable def q8v : ME -> Bool
 | .comp _ _ _ _ => true
 | .compi _ _ _ _ _ => true
 | _ => false
noncomputable def isZp : ME -> Bool
 | _ => false
mutual
noncomputable def corE (sg : Sg) (w : Bool) : ME -> Expr -> Bool
 | .var i, e => match q1c e with | some x => q6k sg i x | none => false
 | .int i, e => q2S e == some (.int i)
 | .bl i, e => q2S e == some (.bool i)
 | .str x, e => q2S e == some (.str x) && decide (x.length <= 1000)
 | .non, e => q2S e == some .none
 | .glb x, e => q1c e == some x && gloB sg x && x != "__debug__"
 | .bin op a b, e => match z1C e with | some (ea, o, eb) => o == op && corE sg false a ea && corE sg false b eb | none => false
 | .neg a, e => match asUn e with | some (o, ea) => o == .USub && corE sg false a ea | none => false
 | .not a, e => match asUn e with | some (o, ea) => o == .Not && corE sg false a ea | none => false
 | .cmp op a b, e => match q9m e with | some (ea, [o], [eb]) => o == op && corE sg false a ea && corE sg false b eb && !q2N eb | _ => false
 | .chain op op' a b c, e => match q9m e with | some (ea, [o, o'], [eb, ec]) => o == op && o' == op' && corE sg false a ea && corE sg false b eb && corE sg false c ec && !q2N ec | _ => false
 | .and ms, e => match q6I e with | some (o, es) => o == .And && q1i sg ms es | none => false
 | .or ms, e => match q6I e with | some (o, es) => o == .Or && q1i sg ms es | none => false
 | .lst ms, e => match q7s e with | some es => q1i sg ms es | none => false
 | .tup ms, e => match q2M e with | some es => q1i sg ms es | none => false
 | .dc0, e => match e with | .Dict [] [] _ => true | _ => false
 | .ix a b, e => match q8h e with | some (ea, eb) => corE sg false a ea && corE sg false b eb && !q4L eb | none => false
 | .slf a lo, e => match q8h e with
  | some (ea, es) => (match q6c es with | some (some el, none, none) => corE sg false a ea && corE sg false lo el | _ => false)
  | none => false
 | .call f ms, e => match q2f e with
  | some (ef, es, [], _) => (match q1c ef with | some x => sg.fn[f]? == some x && gloB sg x && x != "__debug__" | none => false) && !es.isEmpty && q1i sg ms es
  | _ => false
 | .bi f ms, e => match q2f e with
  | some (ef, es, [], _) => bltB sg (z3j f) ef && !es.isEmpty && (match f with
   | .sset | .lset => (match es with
    | [e1] => (match q2f e1 with
     | some (ef', es', [], _) => bltB sg "set" ef' && es'.length == 1 && q1i sg ms es'
     | _ => false)
    | _ => false)
   | .lrng => (match es with
    | [e1] => (match q2f e1 with
     | some (ef', es', [], _) => bltB sg "range" ef' && es'.length == 1 && q1i sg ms es'
     | _ => false)
    | _ => false)
   | _ => q1i sg ms es)
  | _ => false
 | .isi a ts, e => match q2f e with
  | some (ef, [ea, et], [], _) => bltB sg "isinstance" ef && corE sg false a ea && !q0x ea && !q0x et && (match ts with
   | [t] => q1c et == some t && gloB sg t && sg.bl.contains t && q1p.contains t
   | [t, u] => (match q2M et with
    | some [e1, e2] => (q1c e1 == some t && gloB sg t && sg.bl.contains t && q1p.contains t) && (q1c e2 == some u && gloB sg u && sg.bl.contains u && q1p.contains u)
    | _ => false)
   | _ => false)
  | _ => false
 | .isx a t, e => match q2f e with
  | some (ef, [ea, et], [], _) => bltB sg "isinstance" ef && corE sg false a ea && !q0x ea && !q0x et && q1c et == some t && gloB sg t && ((sg.cl.contains t && t != "__debug__") || (sg.bl.contains t && q7I.contains t))
  | _ => false
 | .comp elt tg it fr, e => match q4z e with
  | some c => c.ifs.isEmpty && (corE sg true it c.it && (!isZp it || (q2M c.tg).isSome)) && !q2N c.it && (match q7T tg c.tg with
   | some tn => q2X sg (q1z sg tn fr) fr c.sc tg && tgOk ⟨q1z sg tn fr, c.sc.names, sg.fn, sg.bl, sg.cl, false, true⟩ tg c.tg && corE ⟨q1z sg tn fr, c.sc.names, sg.fn, sg.bl, sg.cl, false, true⟩ false elt c.elt
   | none => false)
  | none => false
 | .compi elt tg it cd fr, e => match q4z e with
  | some c => (corE sg true it c.it && (!isZp it || (q2M c.tg).isSome)) && !q2N c.it && (match q7T tg c.tg, c.ifs with
   | some tn, [ec] => q2X sg (q1z sg tn fr) fr c.sc tg && tgOk ⟨q1z sg tn fr, c.sc.names, sg.fn, sg.bl, sg.cl, false, true⟩ tg c.tg && corE ⟨q1z sg tn fr, c.sc.names, sg.fn, sg.bl, sg.cl, false, true⟩ false elt c.elt && corE ⟨q1z sg tn fr, c.sc.names, sg.fn, sg.bl, sg.cl, false, true⟩ false cd ec
   | _, _ => false)
  | none => false
 | .rng ms, e => w && (match q2f e with
  | some (ef, es, [], _) => bltB sg "range" ef && q1i sg ms es && decide (es.length <= 3)
  | _ => false)
noncomputable def q1i (sg : Sg) : List ME -> List Expr -> Bool
 | [], [] => true
 | m :: ms, e :: es => corE sg false m e && !q0x e && q1i sg ms es
 | _, _ => false
end
noncomputable def q5q : ExceptHandler -> Option (Option Expr × Option Str × List Stmt) | .ExceptHandler t n b _ => some (t, n, b)
noncomputable def q1l : Str := "_law_hung"
noncomputable def hunB (sg : Sg) (i : Nat) (v : Expr) : Option Expr := match q2f v with
 | some (ef, [ea, eo], [], _) => (match q1c ef, q1c eo with
  | some f, some x => if f == q1l && gloB sg f && q6k sg i x && !q0x ea then some ea else none
  | _, _ => none)
 | _ => none
mutual
noncomputable def corS (sg : Sg) : MS -> Stmt -> Bool
 | .set i _ e, s => match s with
  | .Assign [t] v pos => (match t with
   | .Name x pt => sg.N[i]? == some x && locB sg x && corE sg false e v && (!q3z v || q8v e)
   | _ => false)
  | _ => false
 | .sett is e, s => match s with
  | .Assign [t] v _ => tgOk sg (.many is) t && corE sg false e v && (q2M v).isNone && !q3z v
  | _ => false
 | .app i e, s => match s with
  | .Expr v _ => (match q2f v with
   | some (ef, [ea], [], pos) => (match q6D ef with
    | some (o, n, apos) => n == "append" && (match q1c o with | some x => q6k sg i x | none => false) && corE sg false e ea && !q0x ea && apos.endLine == pos.line
    | none => false)
   | _ => false)
  | _ => false
 | .seti i k e, s => match s with
  | .Assign [t] v _ => (match q8h t with
   | some (o, ek) => (match q1c o with | some x => q6k sg i x | none => false) && corE sg false k ek && !q4L ek && corE sg false e v
   | none => false)
  | _ => false
 | .exp e, s => match s with
  | .Expr v _ => corE sg false e v && !q3z v
  | _ => false
 | .ret e, s => match s with
  | .Return (some v) _ => corE sg false e v
  | _ => false
 | .iff c a b, s => match s with
  | .If ec ea eb _ => corE sg false c ec && q2Z sg a ea && q2Z sg b eb
  | _ => false
 | .fo tg it body, s => match s with
  | .For t i b [] _ => sg.lp && tgOk sg tg t && (corE sg true it i && (!isZp it || (q2M t).isSome)) && !q2N i && q2Z sg body b
  | _ => false
 | .rhg i e, s => match s with
  | .Return (some v) _ => (match hunB sg i v with | some ea => corE sg false e ea | none => false)
  | _ => false
 | .rse c e, s => match s with
  | .Raise (some v) none _ => (match q2f v with
   | some (ef, [ea], [], _) => sg.top && q1c ef == some c && gloB sg c && c != "__debug__" && corE sg false e ea && !q0x ea
   | _ => false)
  | _ => false
 | .tryc body c ie ic, s => match s with
  | .Try b [h] [] [] _ => sg.top && q2Z ⟨sg.N, sg.sc, sg.fn, sg.bl, sg.cl, false, false⟩ body b && (match q5q h with
   | some (some t, some n, [.Assign [t2] v2 _]) => q1c t == some c && gloB sg c && c != "__debug__" && sg.cl.contains c && sg.N[ie]? == some n && sg.sc.lookup n == some .local && n != "__debug__" && n != "__classdict__" &&
     q1c v2 == some n && (match q1c t2 with | some x => sg.N[ic]? == some x && locB sg x | none => false) && ie != ic
   | _ => false)
  | _ => false
 | .frz _, _ => false
noncomputable def q2Z (sg : Sg) : List MS -> List Stmt -> Bool
 | [], [] => true
 | .frz _ :: ms, ss => q2Z sg ms ss
 | m :: ms, s :: ss => corS sg m s && q2Z sg ms ss
 | _, _ => false
end
end L2
end
section
namespace L2
open PySem PySem.Spec PyProof.Rows
structure Dm where
 K : PySem.W.Frag
 mg : Str -> Option Value
noncomputable abbrev Cx.D (X : Cx) : Dm := ⟨X.K, X.mg⟩
noncomputable def SqS (K : PySem.W.Frag) (H : Hp) (a : Addr) (xs : List V) : Prop := (∃ o, H a = some (.frz o (.lst xs))) \/
 ∃ (o : Obj) (its : Array Value) (n : Nat), K.lookup a = some o /\ o.cls = .type "list" /\ o.dict = none /\ o.data = .seq its n /\ its.size <= sizeLine /\ Vals xs its.toList
theorem SqS.sq {K : PySem.W.Frag} {H : Hp} {a : Addr} {xs : List V} (h : SqS K H a xs) : SqL K H a xs := by
 rcases h with h | h
 ·exact .inl (.inr h)
 ·exact .inr h
theorem SqS.of {K : PySem.W.Frag} {H : Hp} {a : Addr} {xs : List V} (hO : Only H) (h : SqL K H a xs) : SqS K H a xs := by
 rcases h with (h | h) | h
 ·rcases hO a with z | ⟨o, ys, z⟩
  ·rw [h] at z; cases z
  ·rw [h] at z; cases z
 ·exact .inl h
 ·exact .inr h
theorem Same.sqs {K : PySem.W.Frag} {H H' : Hp} {a : Addr} {xs : List V} (e : Same H H') (h : SqS K H a xs) : SqS K H' a xs := by
 rcases h with ⟨o, h⟩ | h
 ·exact .inl ⟨o, e _ _ h⟩
 ·exact .inr h
mutual
noncomputable def Rep (D : Dm) (H : Hp) : DV -> V -> Prop
 | .non, v => v = .non
 | .bl b, v => v = .bl b
 | .int i, v => v = .int i
 | .str x, v => v = .str x /\ x.length <= sizeLine
 | .tup ds, v => ∃ a xs, v = .ref a /\ SqT D.K H a xs /\ RepL D H ds xs
 | .lst ds, v => ∃ a xs, v = .ref a /\ H a = some (.lst xs) /\ RepL D H ds xs
 | .dct _ _, v => ∃ a kvs, v = .ref a /\ H a = some (.dK kvs)
 | .exc c, v => ∃ a C, v = .ref a /\ D.mg c = some C /\ H a = some (excO a C)
 | .fn x, v => ∃ f, v = .ref f /\ D.mg x = some (.ref f)
 | .scr ns, v => ∃ a, v = .ref a /\ SqS D.K H a (ns.map V.int)
noncomputable def RepL (D : Dm) (H : Hp) : List DV -> List V -> Prop
 | [], xs => xs = []
 | d :: ds, xs => ∃ v vs, xs = v :: vs /\ Rep D H d v /\ RepL D H ds vs
end
theorem Same.tseq {K : PySem.W.Frag} {H H' : Hp} {a : Addr} {xs : List V} (e : Same H H') (h : SqT K H a xs) : SqT K H' a xs := by
 rcases h with (h | ⟨o, h⟩) | h
 ·exact .inl (.inl (e _ _ h))
 ·exact .inl (.inr ⟨o, e _ _ h⟩)
 ·exact .inr h
mutual
theorem Rep.mono {D : Dm} {H H' : Hp} (e : Same H H') : ∀ {d : DV} {v : V}, Rep D H d v -> Rep D H' d v
 | .non, _, h => by unfold Rep at h ⊢; exact h
 | .bl _, _, h => by unfold Rep at h ⊢; exact h
 | .int _, _, h => by unfold Rep at h ⊢; exact h
 | .str _, _, h => by unfold Rep at h ⊢; exact h
 | .tup ds, _, h => by
  unfold Rep at h ⊢
  obtain ⟨a, xs, e1, e2, e3⟩ := h
  exact ⟨a, xs, e1, e.tseq e2, RepL.mono e e3⟩
 | .lst ds, _, h => by
  unfold Rep at h ⊢
  obtain ⟨a, xs, e1, e2, e3⟩ := h
  exact ⟨a, xs, e1, e _ _ e2, RepL.mono e e3⟩
 | .dct _ _, _, h => by
  unfold Rep at h ⊢
  obtain ⟨a, kvs, e1, e2⟩ := h
  exact ⟨a, kvs, e1, e _ _ e2⟩
 | .exc C, _, h => by
  unfold Rep at h ⊢
  obtain ⟨a, C, e1, e2, e3⟩ := h
  exact ⟨a, C, e1, e2, e _ _ e3⟩
 | .fn _, _, h => by unfold Rep at h ⊢; exact h
 | .scr _, _, h => by
  unfold Rep at h ⊢
  obtain ⟨a, e1, e2⟩ := h
  exact ⟨a, e1, e.sqs e2⟩
theorem RepL.mono {D : Dm} {H H' : Hp} (e : Same H H') : ∀ {ds : List DV} {xs : List V}, RepL D H ds xs -> RepL D H' ds xs
 | [], _, h => by unfold RepL at h ⊢; exact h
 | d :: ds, _, h => by
  unfold RepL at h ⊢
  obtain ⟨v, vs, e1, e2, e3⟩ := h
  exact ⟨v, vs, e1, Rep.mono e e2, RepL.mono e e3⟩
end
section
variable {D : Dm} {H H' : Hp} {v : V} {xs ys : List V} {ds es : List DV} {d : DV}
theorem q0I {i : Int} : Rep D H (.int i) v ↔ v = .int i := by unfold Rep; exact Iff.rfl
theorem q3x {i : Bool} : Rep D H (.bl i) v ↔ v = .bl i := by unfold Rep; exact Iff.rfl
theorem q2q {i : Str} : Rep D H (.str i) v ↔ (v = .str i /\ i.length <= sizeLine) := by unfold Rep; exact Iff.rfl
theorem q2V : Rep D H .non v ↔ v = .non := by unfold Rep; exact Iff.rfl
theorem q0T : Rep D H (.tup ds) v ↔ ∃ a xs, v = .ref a /\ SqT D.K H a xs /\ RepL D H ds xs := by unfold Rep; exact Iff.rfl
theorem q0H : Rep D H (.lst ds) v ↔ ∃ a xs, v = .ref a /\ H a = some (.lst xs) /\ RepL D H ds xs := by unfold Rep; exact Iff.rfl
theorem q6i {c : Str} : Rep D H (.exc c) v ↔ ∃ a C, v = .ref a /\ D.mg c = some C /\ H a = some (excO a C) := by unfold Rep; exact Iff.rfl
theorem z2w {x : Str} : Rep D H (.fn x) v ↔ ∃ f, v = .ref f /\ D.mg x = some (.ref f) := by unfold Rep; exact Iff.rfl
theorem q1S {ns : List Int} : Rep D H (.scr ns) v ↔ ∃ a, v = .ref a /\ SqS D.K H a (ns.map V.int) := by unfold Rep; exact Iff.rfl
theorem q5n {ks : List DKey} {vs : List DV} : Rep D H (.dct ks vs) v ↔ ∃ a kvs, v = .ref a /\ H a = some (.dK kvs) := by unfold Rep; exact Iff.rfl
theorem q0C : RepL D H [] xs ↔ xs = [] := by unfold RepL; exact Iff.rfl
theorem q0h : RepL D H (d :: ds) xs ↔ ∃ v vs, xs = v :: vs /\ Rep D H d v /\ RepL D H ds vs := by
 constructor
 ·intro h; unfold RepL at h; exact h
 ·intro h; unfold RepL; exact h
end
theorem RepL.length {D : Dm} {H : Hp} : ∀ {ds : List DV} {xs : List V}, RepL D H ds xs -> xs.length = ds.length
 | [], _, h => by rw [q0C.mp h]; rfl
 | d :: ds, _, h => by
  obtain ⟨v, vs, e1, _, e3⟩ := q0h.mp h
  rw [e1, List.length_cons, List.length_cons, RepL.length e3]
theorem RepL.get {D : Dm} {H : Hp} : ∀ {ds : List DV} {xs : List V} {i : Nat} {d : DV}, RepL D H ds xs -> ds[i]? = some d -> ∃ v, xs[i]? = some v /\ Rep D H d v
 | [], _, _, _, _, e => by simp at e
 | d :: ds, _, i, d', h, e => by
  obtain ⟨v, vs, e1, e2, e3⟩ := q0h.mp h
  subst e1
  cases i with
  | zero => simp at e; subst e; exact ⟨v, rfl, e2⟩
  | succ i => simpa using RepL.get (i := i) e3 (by simpa using e)
theorem RepL.append {D : Dm} {H : Hp} : ∀ {ds es : List DV} {xs ys : List V}, RepL D H ds xs -> RepL D H es ys -> RepL D H (ds ++ es) (xs ++ ys)
 | [], _, _, _, h, h' => by rw [q0C.mp h]; exact h'
 | d :: ds, _, _, _, h, h' => by
  obtain ⟨v, vs, e1, e2, e3⟩ := q0h.mp h
  subst e1
  exact q0h.mpr ⟨v, _, rfl, e2, RepL.append e3 h'⟩
theorem RepL.one {D : Dm} {H : Hp} {d : DV} {v : V} (h : Rep D H d v) : RepL D H [d] [v] := q0h.mpr ⟨v, [], rfl, h, q0C.mpr rfl⟩
theorem RepL.take {D : Dm} {H : Hp} : ∀ {ds : List DV} {xs : List V} (n : Nat), RepL D H ds xs -> RepL D H (ds.take n) (xs.take n)
 | _, _, 0, _ => q0C.mpr rfl
 | [], _, n + 1, h => by rw [q0C.mp h]; exact q0C.mpr rfl
 | d :: ds, _, n + 1, h => by
  obtain ⟨v, vs, e1, e2, e3⟩ := q0h.mp h
  subst e1
  exact q0h.mpr ⟨v, _, rfl, e2, RepL.take n e3⟩
theorem RepL.drop {D : Dm} {H : Hp} : ∀ {ds : List DV} {xs : List V} (n : Nat), RepL D H ds xs -> RepL D H (ds.drop n) (xs.drop n)
 | _, _, 0, h => h
 | [], _, n + 1, h => by rw [q0C.mp h]; exact q0C.mpr rfl
 | d :: ds, _, n + 1, h => by
  obtain ⟨v, vs, e1, e2, e3⟩ := q0h.mp h
  subst e1
  exact RepL.drop n e3
theorem RepL.set {D : Dm} {H : Hp} {d : DV} {v : V} (q : Rep D H d v) : ∀ {ds : List DV} {xs : List V} (n : Nat), RepL D H ds xs -> RepL D H (ds.set n d) (xs.set n v)
 | [], _, n, h => by rw [q0C.mp h]; exact q0C.mpr rfl
 | _ :: ds, _, 0, h => by
  obtain ⟨v, vs, e1, e2, e3⟩ := q0h.mp h
  subst e1
  exact q0h.mpr ⟨_, _, rfl, q, e3⟩
 | _ :: ds, _, n + 1, h => by
  obtain ⟨v, vs, e1, e2, e3⟩ := q0h.mp h
  subst e1
  exact q0h.mpr ⟨_, _, rfl, e2, RepL.set q n e3⟩
theorem RepL.rep {D : Dm} {H : Hp} {ds : List DV} {xs : List V} (h : RepL D H ds xs) : ∀ k : Nat, RepL D H (List.replicate k ds).flatten (List.replicate k xs).flatten
 | 0 => q0C.mpr rfl
 | k + 1 => by
  rw [List.replicate_succ, List.replicate_succ, List.flatten_cons, List.flatten_cons]
  exact h.append (RepL.rep h k)
theorem q2H {D : Dm} {H : Hp} : ∀ (ns : List Int), RepL D H (ns.map DV.int) (ns.map V.int)
 | [] => q0C.mpr rfl
 | n :: ns => q0h.mpr ⟨_, _, rfl, q0I.mpr rfl, q2H ns⟩
noncomputable def wo (O : List Addr) (H : Hp) : Hp := λ b => if b ∈ O then none else H b
theorem z2o {O : List Addr} {H : Hp} {b : Addr} (h : b ∈ O) : wo O H b = none := if_pos h
theorem q0t {O : List Addr} {H : Hp} {b : Addr} (h : b ∉ O) : wo O H b = H b := if_neg h
theorem q0W {O : List Addr} {H : Hp} {b : Addr} {o : HO} (h : wo O H b = some o) : b ∉ O /\ H b = some o := by
 by_cases hb : b ∈ O
 ·rw [z2o hb] at h; cases h
 ·rw [q0t hb] at h; exact ⟨hb, h⟩
theorem Same.wo {O : List Addr} {H H' : Hp} (e : Same H H') : Same (wo O H) (wo O H') := λ b o h => by
 obtain ⟨hb, h⟩ := q0W h
 rw [q0t hb]; exact e b o h
theorem q1y {O : List Addr} {H : Hp} : Same (L2.wo O H) H := λ b o h => (q0W h).2
theorem q0U {O O' : List Addr} {H : Hp} (h : ∀ b ∈ O', b ∈ O) : Same (L2.wo O H) (L2.wo O' H) := λ b o e => by
 obtain ⟨hb, e⟩ := q0W e
 rw [q0t λ z => hb (h b z)]; exact e
theorem q0w {H : Hp} {p : Addr} {o : HO} (h : H p = none) : Same H (upd H p o) := λ b u q => by rw [q0v (q0y q h)]; exact q
structure Hid (O W : List Addr) (H0 H : Hp) : Prop where
 ot : ∀ a ∈ O ++ W, H0 a ≠ none
 same : Same H0 H
 wl : ∀ a ∈ W, ∃ xs, H0 a = some (.lst xs)
 dj : ∀ a ∈ W, a ∉ O
theorem Hid.mono {O W : List Addr} {H0 H H' : Hp} (h : Hid O W H0 H) (e : Same H H') : Hid O W H0 H' := ⟨h.ot, h.same.trans e, h.wl, h.dj⟩
theorem Hid.newOut {O W : List Addr} {H0 H : Hp} (h : Hid O W H0 H) {p : Addr} (hp : H p = none) : p ∉ O ++ W := λ z => h.ot p z (h.same.free hp)
mutual
theorem Rep.immut {D : Dm} {O W : List Addr} {H : Hp} (hw : ∀ a ∈ W, ∃ xs, H a = some (.lst xs)) : ∀ {d : DV} {v : V}, d.immut = true -> Rep D (L2.wo O H) d v -> Rep D (L2.wo (O ++ W) H) d v
 | .non, _, _, h => by unfold Rep at h ⊢; exact h
 | .bl _, _, _, h => by unfold Rep at h ⊢; exact h
 | .int _, _, _, h => by unfold Rep at h ⊢; exact h
 | .str _, _, _, h => by unfold Rep at h ⊢; exact h
 | .tup ds, _, m, h => by
  unfold Rep at h ⊢
  obtain ⟨a, xs, e1, e2, e3⟩ := h
  have m' : DV.immuts ds = true := by unfold DV.immut at m; exact m
  refine ⟨a, xs, e1, ?_, RepL.immut hw m' e3⟩
  rcases e2 with (h | ⟨o, h⟩) | h
  ·obtain ⟨ha, h⟩ := q0W h
   refine .inl (.inl ?_)
   rw [q0t λ z => ?_]
   ·exact h
   ·rcases List.mem_append.mp z with z | z
    ·exact ha z
    ·obtain ⟨ys, q⟩ := hw a z; rw [h] at q; cases q
  ·obtain ⟨ha, h⟩ := q0W h
   refine .inl (.inr ⟨o, ?_⟩)
   rw [q0t λ z => ?_]
   ·exact h
   ·rcases List.mem_append.mp z with z | z
    ·exact ha z
    ·obtain ⟨ys, q⟩ := hw a z; rw [h] at q; cases q
  ·exact .inr h
 | .lst ds, _, m, _ => by unfold DV.immut at m; cases m
 | .dct _ _, _, m, _ => by unfold DV.immut at m; cases m
 | .exc C, _, _, h => by
  unfold Rep at h ⊢
  obtain ⟨a, C, e1, e2, e3⟩ := h
  obtain ⟨ha, h⟩ := q0W e3
  refine ⟨a, C, e1, e2, ?_⟩
  rw [q0t λ z => ?_]
  ·exact h
  ·rcases List.mem_append.mp z with z | z
   ·exact ha z
   ·obtain ⟨ys, q⟩ := hw a z; rw [h] at q; cases q
 | .fn _, _, _, h => by unfold Rep at h ⊢; exact h
 | .scr ns, _, _, h => by
  unfold Rep at h ⊢
  obtain ⟨a, e1, e2⟩ := h
  refine ⟨a, e1, ?_⟩
  rcases e2 with ⟨o, h⟩ | h
  ·obtain ⟨ha, h⟩ := q0W h
   refine .inl ⟨o, ?_⟩
   rw [q0t λ z => ?_]
   ·exact h
   ·rcases List.mem_append.mp z with z | z
    ·exact ha z
    ·obtain ⟨ys, q⟩ := hw a z; rw [h] at q; cases q
  ·exact .inr h
theorem RepL.immut {D : Dm} {O W : List Addr} {H : Hp} (hw : ∀ a ∈ W, ∃ xs, H a = some (.lst xs)) : ∀ {ds : List DV} {xs : List V}, DV.immuts ds = true -> RepL D (L2.wo O H) ds xs -> RepL D (L2.wo (O ++ W) H) ds xs
 | [], _, _, h => by unfold RepL at h ⊢; exact h
 | d :: ds, _, m, h => by
  unfold RepL at h ⊢
  obtain ⟨v, vs, e1, e2, e3⟩ := h
  unfold DV.immuts at m
  rw [Bool.and_eq_true] at m
  exact ⟨v, vs, e1, Rep.immut hw m.1 e2, RepL.immut hw m.2 e3⟩
end
noncomputable def RepT (D : Dm) (W : List Addr) (Ht H : Hp) (d : DV) (v : V) : Prop := match d with
 | .lst ds => ∃ a xs, v = .ref a /\ a ∈ W /\ Ht a = some (.lst xs) /\ RepL D H ds xs
 | d => Rep D H d v
theorem RepT.mono {D : Dm} {W : List Addr} {Ht Ht' H H' : Hp} {d : DV} {v : V} (et : Same Ht Ht') (e : Same H H') (h : RepT D W Ht H d v) : RepT D W Ht' H' d v := by
 cases d with
 | lst ds => obtain ⟨a, xs, e1, e0, e2, e3⟩ := h; exact ⟨a, xs, e1, e0, et _ _ e2, e3.mono e⟩
 | non => exact Rep.mono (D := D) (d := .non) (v := v) e h
 | bl b => exact Rep.mono (D := D) (d := .bl b) (v := v) e h
 | int b => exact Rep.mono (D := D) (d := .int b) (v := v) e h
 | str b => exact Rep.mono (D := D) (d := .str b) (v := v) e h
 | tup b => exact Rep.mono (D := D) (d := .tup b) (v := v) e h
 | dct b c => exact Rep.mono (D := D) (d := .dct b c) (v := v) e h
 | exc b => exact Rep.mono (D := D) (d := .exc b) (v := v) e h
 | fn b => exact Rep.mono (D := D) (d := .fn b) (v := v) e h
 | scr b => exact Rep.mono (D := D) (d := .scr b) (v := v) e h
theorem RepT.rep {D : Dm} {W : List Addr} {Ht H : Hp} {d : DV} {v : V} (e : Same H Ht) (h : RepT D W Ht H d v) : Rep D Ht d v := by
 cases d with
 | lst ds => obtain ⟨a, xs, e1, e0, e2, e3⟩ := h; exact q0H.mpr ⟨a, xs, e1, e2, e3.mono e⟩
 | non => exact Rep.mono (D := D) (d := .non) (v := v) e h
 | bl b => exact Rep.mono (D := D) (d := .bl b) (v := v) e h
 | int b => exact Rep.mono (D := D) (d := .int b) (v := v) e h
 | str b => exact Rep.mono (D := D) (d := .str b) (v := v) e h
 | tup b => exact Rep.mono (D := D) (d := .tup b) (v := v) e h
 | dct b c => exact Rep.mono (D := D) (d := .dct b c) (v := v) e h
 | exc b => exact Rep.mono (D := D) (d := .exc b) (v := v) e h
 | fn b => exact Rep.mono (D := D) (d := .fn b) (v := v) e h
 | scr b => exact Rep.mono (D := D) (d := .scr b) (v := v) e h
noncomputable def Got (D : Dm) (O W : List Addr) (H0 H : Hp) (d : DV) (c : Cl) (v : V) : Prop := match c with
 | .weak => Rep D (L2.wo O H) d v
 | .top => RepT D W (L2.wo O H) (L2.wo (O ++ W) H) d v
 | .strong => Rep D (L2.wo (O ++ W) H) d v
 | .fresh => ∃ p xs ds, v = .ref p /\ d = .lst ds /\ H0 p = none /\ H p = some (.lst xs) /\ RepL D (L2.wo (p :: (O ++ W)) H) ds xs
 | .ft => ∃ t ts p xs ds es, v = .ref t /\ d = .tup (.lst ds :: es) /\ SqT D.K (L2.wo (O ++ W) H) t (.ref p :: ts) /\ H0 p = none /\ H p = some (.lst xs) /\ RepL D (L2.wo (p :: (O ++ W)) H) ds xs /\ RepL D (L2.wo (p :: (O ++ W)) H) es ts
section
variable {D : Dm} {O W : List Addr} {H0 H H' : Hp} {d : DV} {ds : List DV} {c : Cl} {v : V}
theorem q4U : ∀ b ∈ O, b ∈ O ++ W := λ _ h => List.mem_append_left _ h
theorem Got.mono (h : Got D O W H0 H d c v) (e : Same H H') : Got D O W H0 H' d c v := by
 cases c with
 | weak => exact Rep.mono e.wo h
 | top => exact RepT.mono e.wo e.wo h
 | strong => exact Rep.mono e.wo h
 | fresh =>
  obtain ⟨p, xs, ds, e1, e2, e3, e4, e5⟩ := h
  exact ⟨p, xs, ds, e1, e2, e3, e _ _ e4, e5.mono e.wo⟩
 | ft =>
  obtain ⟨t, ts, p, xs, ds, es, e1, e2, e0, e3, e4, e5, e6⟩ := h
  exact ⟨t, ts, p, xs, ds, es, e1, e2, e.wo.tseq e0, e3, e _ _ e4, e5.mono e.wo, e6.mono e.wo⟩
theorem Got.since {H1 : Hp} (h : Got D O W H1 H d c v) (e : Same H0 H1) : Got D O W H0 H d c v := by
 cases c with
 | weak => exact h
 | top => exact h
 | strong => exact h
 | fresh =>
  obtain ⟨p, xs, ds, e1, e2, e3, e4, e5⟩ := h
  exact ⟨p, xs, ds, e1, e2, e.free e3, e4, e5⟩
 | ft =>
  obtain ⟨t, ts, p, xs, ds, es, e1, e2, e0, e3, e4, e5, e6⟩ := h
  exact ⟨t, ts, p, xs, ds, es, e1, e2, e0, e.free e3, e4, e5, e6⟩
theorem Got.ft (h : Got D O W H0 H d .ft v) (hd : Hid O W H0 H) : Rep D (L2.wo (O ++ W) H) d v := by
 obtain ⟨t, ts, p, xs, ds, es, e1, e2, e0, e3, e4, e5, e6⟩ := h
 have hp : p ∉ O ++ W := λ z => hd.ot p z e3
 have up : Same (L2.wo (p :: (O ++ W)) H) (L2.wo (O ++ W) H) := q0U λ b hb => List.mem_cons_of_mem _ hb
 rw [e2]
 exact q0T.mpr ⟨t, _, e1, e0, q0h.mpr ⟨_, _, rfl, q0H.mpr ⟨p, xs, rfl, by rw [q0t hp]; exact e4, e5.mono up⟩, e6.mono up⟩⟩
theorem Got.strong (h : Got D O W H0 H d .fresh v) (hd : Hid O W H0 H) : Rep D (L2.wo (O ++ W) H) d v := by
 obtain ⟨p, xs, ds, e1, e2, e3, e4, e5⟩ := h
 have hp : p ∉ O ++ W := λ z => hd.ot p z e3
 rw [e2]
 exact q0H.mpr ⟨p, xs, e1, by rw [q0t hp]; exact e4, e5.mono (q0U λ b hb => List.mem_cons_of_mem _ hb)⟩
theorem Got.weak (h : Got D O W H0 H d c v) (hd : Hid O W H0 H) : Rep D (L2.wo O H) d v := by
 cases c with
 | weak => exact h
 | top => exact RepT.rep (q0U q4U) h
 | strong => exact Rep.mono (q0U q4U) h
 | fresh => exact Rep.mono (q0U q4U) (h.strong hd)
 | ft => exact Rep.mono (q0U q4U) (h.ft hd)
theorem Got.all (h : Got D O W H0 H d c v) (hd : Hid O W H0 H) : Rep D H d v := Rep.mono q1y (h.weak hd)
theorem Got.stro (h : Got D O W H0 H d c v) (hd : Hid O W H0 H) (hs : L2.stro d c = true) : Rep D (L2.wo (O ++ W) H) d v := by
 cases c with
 | strong => exact h
 | fresh => exact h.strong hd
 | ft => exact h.ft hd
 | weak => exact Rep.immut (λ a ha => by obtain ⟨xs, e⟩ := hd.wl a ha; exact ⟨xs, hd.same _ _ e⟩) hs (h.weak hd)
 | top => exact Rep.immut (λ a ha => by obtain ⟨xs, e⟩ := hd.wl a ha; exact ⟨xs, hd.same _ _ e⟩) hs (h.weak hd)
theorem Got.items (h : Got D O W H0 H (.lst ds) c v) (hd : Hid O W H0 H) (hc : c ≠ .weak) : ∃ a xs, v = .ref a /\ H a = some (.lst xs) /\ RepL D (L2.wo (O ++ W) H) ds xs := by
 cases c with
 | weak => exact absurd rfl hc
 | top =>
  obtain ⟨a, xs, e1, e0, e2, e3⟩ := h
  exact ⟨a, xs, e1, q1y _ _ e2, e3⟩
 | strong =>
  obtain ⟨a, xs, e1, e2, e3⟩ := q0H.mp h
  exact ⟨a, xs, e1, q1y _ _ e2, e3⟩
 | fresh =>
  obtain ⟨a, xs, e1, e2, e3⟩ := q0H.mp (h.strong hd)
  exact ⟨a, xs, e1, q1y _ _ e2, e3⟩
 | ft =>
  obtain ⟨a, xs, e1, e2, e3⟩ := q0H.mp (h.ft hd)
  exact ⟨a, xs, e1, q1y _ _ e2, e3⟩
theorem Got.itemsT (h : Got D O W H0 H (.tup ds) c v) (hd : Hid O W H0 H) (hc : c ≠ .weak) : ∃ a xs, v = .ref a /\ SqT D.K H a xs /\ RepL D (L2.wo (O ++ W) H) ds xs := by
 cases c with
 | weak => exact absurd rfl hc
 | top =>
  obtain ⟨a, xs, e1, e2, e3⟩ := q0T.mp (show Rep D (L2.wo (O ++ W) H) (.tup ds) v from h)
  exact ⟨a, xs, e1, q1y.tseq e2, e3⟩
 | strong =>
  obtain ⟨a, xs, e1, e2, e3⟩ := q0T.mp h
  exact ⟨a, xs, e1, q1y.tseq e2, e3⟩
 | fresh =>
  obtain ⟨p, xs, ds, e1, e2, e3, e4, e5⟩ := h
  cases e2
 | ft =>
  obtain ⟨a, xs, e1, e2, e3⟩ := q0T.mp (h.ft hd)
  exact ⟨a, xs, e1, q1y.tseq e2, e3⟩
theorem Got.lst (h : Got D O W H0 H (.lst ds) c v) (hd : Hid O W H0 H) : ∃ a xs, v = .ref a /\ H a = some (.lst xs) /\ RepL D (L2.wo O H) ds xs := by
 obtain ⟨a, xs, e1, e2, e3⟩ := q0H.mp (h.weak hd)
 exact ⟨a, xs, e1, q1y _ _ e2, e3⟩
theorem Got.tup (h : Got D O W H0 H (.tup ds) c v) (hd : Hid O W H0 H) : ∃ a xs, v = .ref a /\ SqT D.K H a xs /\ RepL D (L2.wo O H) ds xs := by
 obtain ⟨a, xs, e1, e2, e3⟩ := q0T.mp (h.weak hd)
 exact ⟨a, xs, e1, q1y.tseq e2, e3⟩
noncomputable def q1G (O W : List Addr) : Cl -> List Addr
 | .weak => O
 | _ => O ++ W
theorem Got.lstC (h : Got D O W H0 H (.lst ds) c v) (hd : Hid O W H0 H) : ∃ a xs, v = .ref a /\ H a = some (.lst xs) /\ RepL D (L2.wo (q1G O W c) H) ds xs := by
 cases c with
 | weak => exact h.lst hd
 | top => exact h.items hd (by intro z; cases z)
 | strong => exact h.items hd (by intro z; cases z)
 | fresh => exact h.items hd (by intro z; cases z)
 | ft => exact h.items hd (by intro z; cases z)
theorem Got.tupC (h : Got D O W H0 H (.tup ds) c v) (hd : Hid O W H0 H) : ∃ a xs, v = .ref a /\ SqT D.K H a xs /\ RepL D (L2.wo (q1G O W c) H) ds xs := by
 cases c with
 | weak => exact h.tup hd
 | top => exact h.itemsT hd (by intro z; cases z)
 | strong => exact h.itemsT hd (by intro z; cases z)
 | fresh => exact h.itemsT hd (by intro z; cases z)
 | ft => exact h.itemsT hd (by intro z; cases z)
theorem Got.item (h : Rep D (L2.wo (q1G O W c) H) d v) : Got D O W H0 H d c.item v := by
 cases c <;> exact h
theorem q1f {i : Int} (hc : c ≠ .fresh := by intro z; cases z) (hc' : c ≠ .ft := by intro z; cases z) : Got D O W H0 H (.int i) c (.int i) := by
 have q : ∀ H, Rep D H (.int i) (.int i) := λ H => q0I.mpr rfl
 cases c with
 | fresh => exact absurd rfl hc
 | ft => exact absurd rfl hc'
 | weak => exact q (L2.wo O H)
 | strong => exact q (L2.wo (O ++ W) H)
 | top => exact q (L2.wo (O ++ W) H)
theorem q3i {i : Bool} : Got D O W H0 H (.bl i) .strong (.bl i) := (q3x.mpr rfl : Rep D (L2.wo (O ++ W) H) (.bl i) (.bl i))
theorem z0M : Got D O W H0 H .non .strong .non := (q2V.mpr rfl : Rep D (L2.wo (O ++ W) H) .non .non)
theorem Got.int {i : Int} (h : Got D O W H0 H (.int i) c v) (hd : Hid O W H0 H) : v = .int i := q0I.mp (h.weak hd)
theorem Got.bl {i : Bool} (h : Got D O W H0 H (.bl i) c v) (hd : Hid O W H0 H) : v = .bl i := q3x.mp (h.weak hd)
theorem Got.str {x : Str} (h : Got D O W H0 H (.str x) c v) (hd : Hid O W H0 H) : v = .str x /\ x.length <= sizeLine := q2q.mp (h.weak hd)
theorem q2t {p : Addr} {xs : List V} (hd : Hid O W H0 H) (hp : H p = none) (r : RepL D (L2.wo (O ++ W) H) ds xs) : Got D O W H0 (upd H p (.lst xs)) (.lst ds) .fresh (.ref p) := by
 refine ⟨p, xs, ds, rfl, rfl, hd.same.free hp, q0Q, r.mono λ b o e => ?_⟩
 obtain ⟨hb, e⟩ := q0W e
 have hbp : b ≠ p := q0y e hp
 rw [q0t (by intro z; rcases List.mem_cons.mp z with z | z; exact hbp z; exact hb z), q0v hbp]
 exact e
theorem q5j {p : Addr} {xs : List V} (hd : Hid O W H0 H) (hp : H p = none) (r : RepL D (L2.wo O H) ds xs) : Got D O W H0 (upd H p (.lst xs)) (.lst ds) .weak (.ref p) := by
 have hpo : p ∉ O := λ z => hd.newOut hp (List.mem_append_left _ z)
 exact q0H.mpr ⟨p, xs, rfl, by rw [q0t hpo]; exact q0Q, r.mono (q0w hp).wo⟩
theorem q3S {p : Addr} {xs : List V} (hd : Hid O W H0 H) (hp : H p = none) (r : RepL D (L2.wo (q1G O W c) H) ds xs) : Got D O W H0 (upd H p (.lst xs)) (.lst ds) (Cl.anew c c) (.ref p) := by
 cases c with
 | weak => exact q5j hd hp r
 | top => exact q2t hd hp r
 | strong => exact q2t hd hp r
 | fresh => exact q2t hd hp r
 | ft => exact q2t hd hp r
theorem q4r {p : Addr} {xs : List V} (hd : Hid O W H0 H) (hp : H p = none) (r : RepL D (L2.wo (O ++ W) H) ds xs) : Got D O W H0 (upd H p (.tup xs)) (.tup ds) .strong (.ref p) :=
 q0T.mpr ⟨p, xs, rfl, SqT.of (by rw [q0t (hd.newOut hp)]; exact q0Q), r.mono (q0w hp).wo⟩
theorem q6s {p : Addr} {xs : List V} (hd : Hid O W H0 H) (hp : H p = none) (r : RepL D (L2.wo O H) ds xs) : Got D O W H0 (upd H p (.tup xs)) (.tup ds) .weak (.ref p) :=
 q0T.mpr ⟨p, xs, rfl, SqT.of (by rw [q0t λ z => hd.newOut hp (List.mem_append_left _ z)]; exact q0Q), r.mono (q0w hp).wo⟩
theorem q6z {p : Addr} {xs : List V} (hd : Hid O W H0 H) (hp : H p = none) (r : RepL D (L2.wo (q1G O W c) H) ds xs) : Got D O W H0 (upd H p (.tup xs)) (.tup ds) c.item (.ref p) := by
 cases c with
 | weak => exact q6s hd hp r
 | top => exact q4r hd hp r
 | strong => exact q4r hd hp r
 | fresh => exact q4r hd hp r
 | ft => exact q4r hd hp r
end
inductive GotL (D : Dm) (O W : List Addr) (H0 H : Hp) : List (DV × Cl) -> List V -> Prop where
 | nil : GotL D O W H0 H [] []
 | cons {d : DV} {c : Cl} {v : V} {l : List (DV × Cl)} {vs : List V} : Got D O W H0 H d c v -> GotL D O W H0 H l vs -> GotL D O W H0 H ((d, c) :: l) (v :: vs)
section
variable {D : Dm} {O W : List Addr} {H0 H H' : Hp}
theorem GotL.repL {l : List (DV × Cl)} {vs : List V} (h : GotL D O W H0 H l vs) (hd : Hid O W H0 H) : RepL D (L2.wo O H) (l.map (·.1)) vs := by
 induction h with
 | nil => exact q0C.mpr rfl
 | cons h _ ih => exact q0h.mpr ⟨_, _, rfl, h.weak hd, ih⟩
theorem GotL.stros {l : List (DV × Cl)} {vs : List V} (h : GotL D O W H0 H l vs) (hd : Hid O W H0 H) (hs : L2.stros l = true) : RepL D (L2.wo (O ++ W) H) (l.map (·.1)) vs := by
 induction h with
 | nil => exact q0C.mpr rfl
 | cons h _ ih =>
  unfold L2.stros at hs
  rw [List.all_cons, Bool.and_eq_true] at hs
  exact q0h.mpr ⟨_, _, rfl, h.stro hd hs.1, ih hs.2⟩
theorem GotL.length {l : List (DV × Cl)} {vs : List V} (h : GotL D O W H0 H l vs) : vs.length = l.length := by
 induction h with
 | nil => rfl
 | cons _ _ ih => rw [List.length_cons, List.length_cons, ih]
theorem GotL.strong {l : List (DV × Cl)} {vs : List V} (h : GotL D O W H0 H l vs) (hd : Hid O W H0 H) (hs : (l.all λ p => p.2 == .strong || p.2 == .fresh) = true) : RepL D (L2.wo (O ++ W) H) (l.map (·.1)) vs := by
 refine h.stros hd ?_
 unfold L2.stros
 rw [List.all_eq_true] at hs ⊢
 intro p hp
 have := hs p hp
 unfold L2.stro
 cases e : p.2 <;> rw [e] at this <;> first | rfl | cases this
theorem GotL.one {d : DV} {c : Cl} {vs : List V} (h : GotL D O W H0 H [(d, c)] vs) : ∃ v, vs = [v] /\ Got D O W H0 H d c v := by
 cases h with
 | cons h t => cases t; exact ⟨_, rfl, h⟩
theorem GotL.two {d d' : DV} {c c' : Cl} {vs : List V} (h : GotL D O W H0 H [(d, c), (d', c')] vs) : ∃ v v', vs = [v, v'] /\ Got D O W H0 H d c v /\ Got D O W H0 H d' c' v' := by
 cases h with
 | cons h t => obtain ⟨v', e, h'⟩ := t.one; subst e; exact ⟨_, _, rfl, h, h'⟩
theorem GotL.three {d d' d2 : DV} {c c' c2 : Cl} {vs : List V} (h : GotL D O W H0 H [(d, c), (d', c'), (d2, c2)] vs) : ∃ v v' v2, vs = [v, v', v2] /\ Got D O W H0 H d c v /\ Got D O W H0 H d' c' v' /\ Got D O W H0 H d2 c2 v2 := by
 cases h with
 | cons h t => obtain ⟨v', v2, e, h', h2⟩ := t.two; subst e; exact ⟨_, _, _, rfl, h, h', h2⟩
end
noncomputable def O2At (H : Hp) (W : List Addr) (p : Addr) (L : List (Addr × List Int)) : Prop := p ∈ W /\ H p = some (.lst (L.map λ q => .ref q.1)) /\ (∀ q ∈ L, q.1 ∈ W /\ H q.1 = some (.lst (q.2.map V.int))) /\ (p :: L.map (·.1)).Nodup
noncomputable def o2D (L : List (Addr × List Int)) : DV := .lst (L.map λ q => .lst (q.2.map DV.int))
theorem O2At.mono {H H' : Hp} {W : List Addr} {p : Addr} {L : List (Addr × List Int)} (h : O2At H W p L) (e : Same H H') : O2At H' W p L := ⟨h.1, e _ _ h.2.1, λ q hq => ⟨(h.2.2.1 q hq).1, e _ _ (h.2.2.1 q hq).2⟩, h.2.2.2⟩
theorem O2At.sub {H : Hp} {W W' : List Addr} {p : Addr} {L : List (Addr × List Int)} (h : O2At H W p L) (e : ∀ a ∈ p :: L.map (·.1), a ∈ W -> a ∈ W') : O2At H W' p L :=
 ⟨e _ (List.mem_cons_self ..) h.1, h.2.1, λ q hq => ⟨e _ (List.mem_cons_of_mem _ (List.mem_map.mpr ⟨q, hq, rfl⟩)) (h.2.2.1 q hq).1, (h.2.2.1 q hq).2⟩, h.2.2.2⟩
theorem O2At.dom {H : Hp} {W : List Addr} {p a : Addr} {L : List (Addr × List Int)} (h : O2At H W p L) (ha : a ∈ p :: L.map (·.1)) : a ∈ W /\ ∃ xs, H a = some (.lst xs) := by
 rcases List.mem_cons.mp ha with z | z
 ·rw [z]; exact ⟨h.1, _, h.2.1⟩
 ·obtain ⟨q, hq, rfl⟩ := List.mem_map.mp z
  exact ⟨(h.2.2.1 q hq).1, _, (h.2.2.1 q hq).2⟩
theorem O2At.write {H : Hp} {W : List Addr} {p a : Addr} {o : HO} {L : List (Addr × List Int)} (h : O2At H W p L) (ha : a ∉ p :: L.map (·.1)) : O2At (upd H a o) W p L :=
 ⟨h.1, by rw [q0v λ z => ha (by rw [← z]; exact List.mem_cons_self ..)]; exact h.2.1, λ q hq => ⟨(h.2.2.1 q hq).1, by rw [q0v λ z => ha (by rw [← z]; exact List.mem_cons_of_mem _ (List.mem_map.mpr ⟨q, hq, rfl⟩))]; exact (h.2.2.1 q hq).2⟩, h.2.2.2⟩
structure RSt (D : Dm) (H : Hp) (σ : St) (δ : List Sv) (O W : List Addr) : Prop where
 val : ∀ (i : Nat) d, δ[i]? = some (.val d) -> ∃ v, σ[i]? = some (some v) /\ Rep D (L2.wo (O ++ W) H) d v
 own : ∀ (i : Nat) d, δ[i]? = some (.own d) -> ∃ a xs ds, d = .lst ds /\ σ[i]? = some (some (.ref a)) /\ a ∈ W /\ H a = some (.lst xs) /\ RepL D (L2.wo (O ++ W) H) ds xs
 inj : ∀ (i j : Nat) a d d', δ[i]? = some (.own d) -> δ[j]? = some (.own d') -> σ[i]? = some (some (.ref a)) -> σ[j]? = some (some (.ref a)) -> i = j
 ot : ∀ (i : Nat) d, δ[i]? = some (.ot d) -> (∃ t ts p xs ds es, d = .tup (.lst ds :: es) /\ σ[i]? = some (some (.ref t)) /\ SqT D.K (L2.wo (O ++ W) H) t (.ref p :: ts) /\ p ∈ W /\ H p = some (.lst xs) /\ RepL D (L2.wo (O ++ W) H) ds xs /\ RepL D (L2.wo (O ++ W) H) es ts /\
  ∀ (j : Nat) d', δ[j]? = some (.own d') -> σ[j]? ≠ some (some (.ref p))) /\ ∀ (j : Nat) d', δ[j]? = some (.ot d') -> j = i
 o2 : ∀ (i : Nat) d, δ[i]? = some (.o2 d) -> (∃ p L, d = o2D L /\ σ[i]? = some (some (.ref p)) /\ O2At H W p L /\ ∀ (j : Nat) d' a, δ[j]? = some (.own d') -> σ[j]? = some (some (.ref a)) -> a ∉ p :: L.map (·.1)) /\ (∀ (j : Nat) d', δ[j]? = some (.o2 d') -> j = i) /\ ∀ (j : Nat) d', δ[j]? ≠ some (.ot d')
 len : σ.length = δ.length
 hid : Hid O W H H
theorem Hid.later {O W : List Addr} {H H' : Hp} (h : Hid O W H H) (e : Same H H') : Hid O W H' H' := ⟨λ a ha q => h.ot a ha (e.free q), Same.refl _, λ a ha => by obtain ⟨xs, q⟩ := h.wl a ha; exact ⟨xs, e _ _ q⟩, h.dj⟩
theorem RSt.mono {D : Dm} {H H' : Hp} {σ : St} {δ : List Sv} {O W : List Addr} (R : RSt D H σ δ O W) (e : Same H H') : RSt D H' σ δ O W where
 val := λ i d h => by obtain ⟨v, e1, e2⟩ := R.val i d h; exact ⟨v, e1, e2.mono e.wo⟩
 own := λ i ds h => by obtain ⟨a, xs, ds, e0, e1, e2, e3, e4⟩ := R.own i ds h; exact ⟨a, xs, ds, e0, e1, e2, e _ _ e3, e4.mono e.wo⟩
 inj := R.inj
 ot := λ i d h => by
  obtain ⟨⟨t, ts, p, xs, ds, es, e0, e1, e2, e3, e4, e5, e6, e7⟩, u⟩ := R.ot i d h
  exact ⟨⟨t, ts, p, xs, ds, es, e0, e1, e.wo.tseq e2, e3, e _ _ e4, e5.mono e.wo, e6.mono e.wo, e7⟩, u⟩
 o2 := λ i d h => by
  obtain ⟨⟨p, L, e0, e1, e2, e3⟩, u, n⟩ := R.o2 i d h
  exact ⟨⟨p, L, e0, e1, e2.mono e, e3⟩, u, n⟩
 len := R.len
 hid := R.hid.later e
noncomputable def Post (D : Dm) (E : St -> XK) (σ : St) (O W : List Addr) (H0 H : Hp) (Q : VK) : Re -> Prop
 | .ok d c => ∀ v H', Same H H' -> Got D O W H0 H' d c v -> Q v H'
 | .ex c => ∀ H' C, D.mg c = some C -> Same H H' -> E σ C none H'
noncomputable def dE (D : Dm) (E : St -> XK) (δ : List Sv) (r : Re) : TE := λ σ H Q => ∃ O W, RSt D H σ δ O W /\ Post D E σ O W H H Q r
noncomputable def z4b (D : Dm) (E : St -> XK) (σ : St) (O W : List Addr) (H0 H : Hp) (Q : List V -> Hp -> Prop) : Rs -> Prop
 | .ok l => ∀ vs H', Same H H' -> GotL D O W H0 H' l vs -> Q vs H'
 | .ex c => ∀ H' C, D.mg c = some C -> Same H H' -> E σ C none H'
noncomputable def dA (D : Dm) (E : St -> XK) (δ : List Sv) (r : Rs) : TA := λ σ H Q => ∃ O W, RSt D H σ δ O W /\ z4b D E σ O W H H Q r
noncomputable def q8Z (D : Dm) (E : St -> XK) (σ : St) (H : Hp) (Q : Bool -> Hp -> Prop) : Rt -> Prop
 | .ok b => ∀ H', Same H H' -> Q b H'
 | .ex c => ∀ H' C, D.mg c = some C -> Same H H' -> E σ C none H'
noncomputable def dT (D : Dm) (E : St -> XK) (δ : List Sv) (r : Rt) : TT := λ σ H Q => ∃ O W, RSt D H σ δ O W /\ q8Z D E σ H Q r
theorem Post.step {D : Dm} {E : St -> XK} {σ : St} {O W : List Addr} {H0 H H1 : Hp} {Q : VK} {r : Re} (h : Post D E σ O W H0 H Q r) (e : Same H H1) : Post D E σ O W H0 H1 Q r := by
 cases r with
 | ok d c => exact λ v H' s g => h v H' (e.trans s) g
 | ex c => exact λ H' C m s => h H' C m (e.trans s)
theorem Post.later {D : Dm} {E : St -> XK} {σ : St} {O W : List Addr} {H0 H H1 : Hp} {Q : VK} {r : Re} (h : Post D E σ O W H0 H Q r) (e : Same H H1) (e0 : Same H0 H1) : Post D E σ O W H1 H1 Q r := by
 cases r with
 | ok d c => exact λ v H' s g => h v H' (e.trans s) (g.since e0)
 | ex c => exact λ H' C m s => h H' C m (e.trans s)
theorem GotL.since {D : Dm} {O W : List Addr} {H0 H1 H : Hp} {l : List (DV × Cl)} {vs : List V} (h : GotL D O W H1 H l vs) (e : Same H0 H1) : GotL D O W H0 H l vs := by
 induction h with
 | nil => exact .nil
 | cons g _ ih => exact .cons (g.since e) ih
theorem q8Z.later {D : Dm} {E : St -> XK} {σ : St} {H H1 : Hp} {Q : Bool -> Hp -> Prop} {r : Rt} (h : q8Z D E σ H Q r) (e : Same H H1) : q8Z D E σ H1 Q r := by
 cases r with
 | ok b => exact λ H' s => h H' (e.trans s)
 | ex c => exact λ H' C m s => h H' C m (e.trans s)
theorem PE.weak {X : Cx} {e : Expr} {t t' : TE} (h : PE X e t) (k : ∀ σ H Q, t' σ H Q -> t σ H Q) : PE X e t' := λ pins s σ H Q I q => h pins s σ H Q I (k σ H Q q)
theorem PT.weak {X : Cx} {e : Expr} {t t' : TT} (h : PT X e t) (k : ∀ σ H Q, t' σ H Q -> t σ H Q) : PT X e t' := λ pins s σ H Q I q => h pins s σ H Q I (k σ H Q q)
theorem PW.weak {X : Cx} {e : Expr} {t t' : TT} (h : PW X e t) (k : ∀ σ H Q, t' σ H Q -> t σ H Q) : PW X e t' := λ whole pins s σ H Q I q => h whole pins s σ H Q I (k σ H Q q)
theorem PA.weak {X : Cx} {e : List Expr} {t t' : TA} (h : PA X e t) (k : ∀ σ H Q, t' σ H Q -> t σ H Q) : PA X e t' := λ pos pins s σ H Q I q => h pos pins s σ H Q I (k σ H Q q)
theorem PS.weak {X : Cx} {e : Stmt} {t t' : TS} (h : PS X e t) (k : ∀ D σ H, t' D σ H -> t D σ H) : PS X e t' := λ pins s σ H D I q => h pins s σ H D I (k D σ H q)
theorem PSs.weak {X : Cx} {e : List Stmt} {t t' : TS} (h : PSs X e t) (k : ∀ D σ H, t' D σ H -> t D σ H) : PSs X e t' := λ pins s σ H D I q => h pins s σ H D I (k D σ H q)
theorem q4O {X : Cx} {e : Expr} : PW X e (λ _ _ _ => False) := λ _ _ _ _ _ _ _ h => h.elim
theorem q1W {X : Cx} {e : Expr} : PE X e (λ _ _ _ => False) := λ _ _ _ _ _ _ h => h.elim
theorem z1U {X : Cx} {e : List Expr} : PA X e (λ _ _ _ => False) := λ _ _ _ _ _ _ _ h => h.elim
end L2
end
section
namespace L2
open PySem PySem.Spec PyProof.Rows
theorem q1P {n : Nat} (h : n <= mostLen) : n <= sizeLine := Nat.le_trans h (by decide)
section
variable {X : Cx} {E : St -> XK} {δ : List Sv} {a b c e : Expr} {es : List Expr}
theorem z0k {r : V -> Hp -> VK -> Prop} {k : DV -> Cl -> Option Re} {ra : Option Re} {re : Re} (hop : ∀ ta, PE X a ta -> PE X e (tUn r ta)) (ha : ∀ q, ra = some q -> PE X a (dE X.D E δ q)) (h : Re.thn ra k = some re)
  (hr : ∀ O W H0 H x Q dx cx σ, k dx cx = some re -> Hid O W H0 H -> Got X.D O W H0 H dx cx x -> Post X.D E σ O W H0 H Q re -> r x H Q) : PE X e (dE X.D E δ re) := by
 cases hra : ra with
 | none => rw [hra] at h; cases h
 | some q =>
  rw [hra] at h
  have A := ha q hra
  cases q with
  | ex c =>
   cases h
   exact (hop _ A).weak λ σ H Q ⟨O, W, R, p⟩ => ⟨O, W, R, p⟩
  | ok dx cx =>
   have h' : k dx cx = some re := h
   exact (hop _ A).weak λ σ H Q ⟨O, W, R, p⟩ => ⟨O, W, R, λ x H1 s1 g1 => hr O W H H1 x Q dx cx σ h' (R.hid.mono s1) g1 (p.step s1)⟩
theorem q6H {r : R2} {k : DV -> Cl -> DV -> Cl -> Option Re} {ra rb : Option Re} {re : Re} (ha : ∀ q, ra = some q -> PE X a (dE X.D E δ q)) (hb : ∀ q, rb = some q -> PE X b (dE X.D E δ q))
  (h : (Re.thn ra λ x cx => Re.thn rb λ y cy => k x cx y cy) = some re)
  (hr : ∀ O W H0 H x y Q dx cx dy cy σ, k dx cx dy cy = some re -> Hid O W H0 H -> Got X.D O W H0 H dx cx x -> Got X.D O W H0 H dy cy y -> Post X.D E σ O W H0 H Q re -> r x y H Q) :
  ∃ ta tb, PE X a ta /\ PE X b tb /\ ∀ σ H Q, dE X.D E δ re σ H Q -> tOp r ta tb σ H Q := by
 cases hra : ra with
 | none => rw [hra] at h; cases h
 | some q =>
  rw [hra] at h
  have A := ha q hra
  cases q with
  | ex c =>
   cases h
   exact ⟨_, _, A, q1W, λ σ H Q ⟨O, W, R, p⟩ => ⟨O, W, R, p⟩⟩
  | ok dx cx =>
   have h' : (Re.thn rb λ y cy => k dx cx y cy) = some re := h
   cases hrb : rb with
   | none => rw [hrb] at h'; cases h'
   | some q =>
    rw [hrb] at h'
    have B := hb q hrb
    cases q with
    | ex c =>
     cases h'
     exact ⟨_, _, A, B, λ σ H Q ⟨O, W, R, p⟩ => ⟨O, W, R, λ x H1 s1 g1 => ⟨O, W, R.mono s1, λ H' C m s => p H' C m (s1.trans s)⟩⟩⟩
    | ok dy cy =>
     have h2 : k dx cx dy cy = some re := h'
     exact ⟨_, _, A, B, λ σ H Q ⟨O, W, R, p⟩ => ⟨O, W, R, λ x H1 s1 g1 => ⟨O, W, R.mono s1, λ y H2 s2 g2 =>
      hr O W H H2 x y Q dx cx dy cy σ h2 ((R.hid.mono s1).mono s2) (g1.mono s2) (g2.since s1) (p.step (s1.trans s2))⟩⟩⟩
theorem q8i {r : R2} {k : DV -> Cl -> DV -> Cl -> Option Re} {ra rb : Option Re} {re : Re} (hop : ∀ ta tb, PE X a ta -> PE X b tb -> PE X e (tOp r ta tb)) (ha : ∀ q, ra = some q -> PE X a (dE X.D E δ q)) (hb : ∀ q, rb = some q -> PE X b (dE X.D E δ q))
  (h : (Re.thn ra λ x cx => Re.thn rb λ y cy => k x cx y cy) = some re)
  (hr : ∀ O W H0 H x y Q dx cx dy cy σ, k dx cx dy cy = some re -> Hid O W H0 H -> Got X.D O W H0 H dx cx x -> Got X.D O W H0 H dy cy y -> Post X.D E σ O W H0 H Q re -> r x y H Q) : PE X e (dE X.D E δ re) := by
 obtain ⟨ta, tb, A, B, q⟩ := q6H ha hb h hr
 exact (hop _ _ A B).weak q
theorem q3R {r : List V -> Hp -> VK -> Prop} {k : List (DV × Cl) -> Option Re} {ra : Option Rs} {re : Re} (hop : ∀ t, PA X es t -> PE X e (tCB r t)) (ha : ∀ q, ra = some q -> PA X es (dA X.D E δ q)) (h : Rs.thn ra k = some re)
  (hr : ∀ O W H0 H vs Q l σ, k l = some re -> Hid O W H0 H -> GotL X.D O W H0 H l vs -> Post X.D E σ O W H0 H Q re -> r vs H Q) : PE X e (dE X.D E δ re) := by
 cases hra : ra with
 | none => rw [hra] at h; cases h
 | some q =>
  rw [hra] at h
  have A := ha q hra
  cases q with
  | ex c =>
   cases h
   exact (hop _ A).weak λ σ H Q ⟨O, W, R, p⟩ => ⟨O, W, R, p⟩
  | ok l =>
   have h' : k l = some re := h
   exact (hop _ A).weak λ σ H Q ⟨O, W, R, p⟩ => ⟨O, W, R, λ vs H1 s1 g1 => hr O W H H1 vs Q l σ h' (R.hid.mono s1) g1 (p.step s1)⟩
end
theorem q6p {D : Dm} {H : Hp} : ∀ {L : List (Addr × List Int)}, (∀ q ∈ L, H q.1 = some (.lst (q.2.map V.int))) -> RepL D H (L.map λ q => .lst (q.2.map DV.int)) (L.map λ q => .ref q.1)
 | [], _ => q0C.mpr rfl
 | q :: L, h => q0h.mpr ⟨_, _, rfl, q0H.mpr ⟨q.1, _, rfl, h q (List.mem_cons_self ..), q2H _⟩, q6p λ q' hq => h q' (List.mem_cons_of_mem _ hq)⟩
section
variable {X : Cx} {E : St -> XK} {δ : List Sv} {pos : Pos}
theorem z1m {i : Nat} {x : Str} {r : Re} (hN : X.N[i]? = some x) (hv : Vis X.env.scope x) (hd : (x == ("__debug__" : Str)) = false) (hcd : (x == ("__classdict__" : Str)) = false)
  (h : (match δ[i]? with | some (.val d) => some (Re.ok d .strong) | some (.own d) => some (.ok d .top) | some (.ot d) => some (.ok d .weak) | some (.o2 d) => some (.ok d .weak) | _ => none) = some r) : PE X (.Name x pos) (dE X.D E δ r) :=
 (q4q hN hv hd hcd).weak λ σ H Q ⟨O, W, R, p⟩ => by
  split at h
  ·rename_i d q
   cases h
   obtain ⟨v, e1, e2⟩ := R.val i d q
   exact ⟨v, e1, p v H (Same.refl H) e2⟩
  ·rename_i d q
   cases h
   obtain ⟨a, xs, ds, e0, e1, e2, e3, e4⟩ := R.own i d q
   subst e0
   refine ⟨.ref a, e1, p _ H (Same.refl H) ⟨a, xs, rfl, e2, ?_, e4⟩⟩
   rw [q0t (R.hid.dj a e2)]
   exact e3
  ·rename_i d q
   cases h
   obtain ⟨⟨t, ts, p1, xs, ds, es, e0, e1, e2, e3, e4, e5, e6, e7⟩, _⟩ := R.ot i d q
   subst e0
   have up : Same (L2.wo (O ++ W) H) (L2.wo O H) := q0U q4U
   refine ⟨.ref t, e1, p _ H (Same.refl H) (q0T.mpr ⟨t, _, rfl, up.tseq e2, q0h.mpr ⟨_, _, rfl, q0H.mpr ⟨p1, xs, rfl, ?_, e5.mono up⟩, e6.mono up⟩⟩ : Rep X.D (L2.wo O H) (.tup (.lst ds :: es)) (.ref t))⟩
   rw [q0t (R.hid.dj p1 e3)]
   exact e4
  ·rename_i d q
   cases h
   obtain ⟨⟨a, L, e0, e1, e2, _⟩, _, _⟩ := R.o2 i d q
   subst e0
   refine ⟨.ref a, e1, p _ H (Same.refl H) (q0H.mpr ⟨a, _, rfl, by rw [q0t (R.hid.dj a e2.1)]; exact e2.2.1, ?_⟩ : Rep X.D (L2.wo O H) (o2D L) (.ref a))⟩
   exact q6p λ q hq => by rw [q0t (R.hid.dj q.1 (e2.2.2.1 q hq).1)]; exact (e2.2.2.1 q hq).2
  ·cases h
theorem z0R {i : Int} {j : Nat} : PE X (.Constant (.int i) j pos) (dE X.D E δ (.ok (.int i) .strong)) := z2q.weak λ σ H Q ⟨O, W, R, p⟩ => p _ H (Same.refl H) q1f
theorem z3w {i : Bool} {j : Nat} : PE X (.Constant (.bool i) j pos) (dE X.D E δ (.ok (.bl i) .strong)) := z4O.weak λ σ H Q ⟨O, W, R, p⟩ => p _ H (Same.refl H) q3i
theorem z0F {i : Str} {j : Nat} (h : i.length <= sizeLine) : PE X (.Constant (.str i) j pos) (dE X.D E δ (.ok (.str i) .strong)) := z2g.weak λ σ H Q ⟨O, W, R, p⟩ => p _ H (Same.refl H) (q2q.mpr ⟨rfl, h⟩ : Rep X.D (L2.wo (O ++ W) H) (.str i) (.str i))
theorem z1T {j : Nat} : PE X (.Constant .none j pos) (dE X.D E δ (.ok .non .strong)) := z3a.weak λ σ H Q ⟨O, W, R, p⟩ => p _ H (Same.refl H) z0M
end
section
variable {X : Cx} {E : St -> XK} {δ : List Sv} {a b c e : Expr} {pos : Pos} {ra rb : Option Re} {re : Re}
theorem z1K {O W : List Addr} {H0 H : Hp} {C : Int -> Int -> Prop} {g : Int -> Int -> V} {x y : V} {Q : VK} {i j : Int} {ca cb : Cl} {D : Dm} (hd : Hid O W H0 H) (gx : Got D O W H0 H (.int i) ca x) (gy : Got D O W H0 H (.int j) cb y) (hc : C i j) (q : Q (g i j) H) : rI C g x y H Q :=
 ⟨i, j, gx.int hd, gy.int hd, hc, q⟩
theorem z0x {O W : List Addr} {H0 H : Hp} {g : Int -> Int -> V} {x y : V} {Q : VK} {i j : Int} {ca cb : Cl} {D : Dm} (hd : Hid O W H0 H) (gx : Got D O W H0 H (.int i) ca x) (gy : Got D O W H0 H (.int j) cb y) (q : Q (g i j) H) : rI0 g x y H Q :=
 ⟨i, j, gx.int hd, gy.int hd, q⟩
theorem z1W {ca cb : Cl} (h : ca ≠ .weak) (h' : cb ≠ .weak) : Cl.anew ca cb = .fresh := by
 cases ca <;> cases cb <;> first | rfl | exact absurd rfl h | exact absurd rfl h'
noncomputable def q9U (i j : Int) : Prop := CMul i j \/ (i.natAbs < 2 ^ 200 /\ j.natAbs < 2 ^ 200)
theorem q8C {i : Int} (h : i.natAbs < 2 ^ 200) : Builtin.Int.intBits i <= 200 := by
 unfold Builtin.Int.intBits
 by_cases hi : i = 0
 ·subst hi; decide
 ·rw [if_neg (by simpa using hi)]
  have : i.natAbs ≠ 0 := λ z => hi (Int.natAbs_eq_zero.mp z)
  exact (Nat.log2_lt this).mpr h
theorem q9U.ok {i j : Int} (h : q9U i j) : IntMulOk i j := by
 rcases h with h | ⟨h1, h2⟩
 ·exact h.ok
 ·unfold IntMulOk
  have b1 := q8C h1
  have b2 := q8C h2
  have : Builtin.Int.intTooBig ((Builtin.Int.intBits i : Int) + (Builtin.Int.intBits j : Int)) = false := by
   unfold Builtin.Int.intTooBig
   rw [decide_eq_false]
   have : ((bitsLine : Nat) : Int) = 134217728 := by decide
   omega
  rw [this, Bool.and_false]
  exact Bool.false_ne_true
theorem z1I : OpR X (binaryOp .Mult) (rI q9U λ i j => .int (i * j)) := opI λ _ _ _ _ _ _ _ hc q => mul_int q hc.ok
theorem q9G : OpR X (binaryOp .FloorDiv) (rI (λ _ j => 0 < j /\ j < 2 ^ 200) λ i j => .int (i / j)) := opI λ i j _ _ _ _ _ hc q => by
 have h1 : (0 : Int) < j := hc.1
 have h2 : j.natAbs < 2 ^ 200 := by have := hc.2; omega
 refine floordiv_int (by omega) (by rw [Int.fdiv_eq_ediv_of_nonneg i (by omega)]; exact q) (.inl (PyProof.noPylong_of_log2 ?_))
 exact Nat.lt_of_lt_of_le ((Nat.log2_lt (by omega)).mpr h2) (by decide)
noncomputable def binR (X : Cx) : Operator -> R2
 | .Add => λ x y H Q => rI0 (λ i j => .int (i + j)) x y H Q \/ rCat x y H Q
 | .Sub => rI0 λ i j => .int (i - j)
 | .Mult => λ x y H Q => rI q9U (λ i j => .int (i * j)) x y H Q \/ rRep x y H Q
 | .Mod => rI (λ _ j => 0 < j) λ i j => .int (i % j)
 | .FloorDiv => rI (λ _ j => 0 < j /\ j < 2 ^ 200) λ i j => .int (i / j)
 | _ => λ _ _ _ _ => False
theorem z2X {op : Operator} : OpR X (binaryOp op) (binR X op) := by
 cases op with
 | Add => exact z3p.or z2u
 | Sub => exact z3A
 | Mult => exact z1I.or z3M
 | Mod => exact z2B
 | FloorDiv => exact q9G
 | LShift => exact λ _ _ _ _ _ _ _ _ _ _ _ _ h => h.elim
 | RShift => exact λ _ _ _ _ _ _ _ _ _ _ _ _ h => h.elim
 | BitAnd => exact λ _ _ _ _ _ _ _ _ _ _ _ _ h => h.elim
 | BitOr => exact λ _ _ _ _ _ _ _ _ _ _ _ _ h => h.elim
 | BitXor => exact λ _ _ _ _ _ _ _ _ _ _ _ _ h => h.elim
 | MatMult => exact λ _ _ _ _ _ _ _ _ _ _ _ _ h => h.elim
 | Div => exact λ _ _ _ _ _ _ _ _ _ _ _ _ h => h.elim
 | Pow => exact λ _ _ _ _ _ _ _ _ _ _ _ _ h => h.elim
theorem z3v {O W : List Addr} {H0 H : Hp} {op : Operator} {x y : V} {dx dy : DV} {cx cy : Cl} {Q : VK} {σ : St} (h : binD op dx dy cx cy = some re) (hd : Hid O W H0 H) (gx : Got X.D O W H0 H dx cx x) (gy : Got X.D O W H0 H dy cy y)
  (p : Post X.D E σ O W H0 H Q re) : binR X op x y H Q := by
 unfold binD at h
 split at h
 ·cases h; exact .inl (z0x hd gx gy (p _ H (Same.refl H) q1f))
 ·cases h; exact z0x hd gx gy (p _ H (Same.refl H) q1f)
 ·split at h
  ·rename_i m
   cases h
   refine .inl (z1K hd gx gy ?_ (p _ H (Same.refl H) q1f))
   unfold q4S at m
   simp only [Bool.or_eq_true, Bool.and_eq_true, decide_eq_true_eq] at m
   exact m
  ·cases h
 ·split at h
  ·rename_i m; cases h; exact z1K hd gx gy m (p _ H (Same.refl H) q1f)
  ·cases h
 ·split at h
  ·rename_i m; cases h; exact z1K hd gx gy m (p _ H (Same.refl H) q1f)
  ·cases h
 ·rename_i xs ys
  split at h
  ·rename_i m
   cases h
   by_cases hw : cx ≠ .weak /\ cy ≠ .weak
   ·obtain ⟨l1, v1, e1, k1, r1⟩ := gx.items hd hw.1
    obtain ⟨l2, v2, e2, k2, r2⟩ := gy.items hd hw.2
    refine .inr (⟨l1, l2, v1, v2, e1, e2, k1, k2, by rw [r1.length, r2.length]; exact q1P m, λ q hq => p _ _ (q0w hq) ?_⟩)
    rw [z1W hw.1 hw.2]
    exact q2t hd hq (r1.append r2)
   ·obtain ⟨l1, v1, e1, k1, r1⟩ := gx.lst hd
    obtain ⟨l2, v2, e2, k2, r2⟩ := gy.lst hd
    refine .inr (⟨l1, l2, v1, v2, e1, e2, k1, k2, by rw [r1.length, r2.length]; exact q1P m, λ q hq => p _ _ (q0w hq) ?_⟩)
    have : Cl.anew cx cy = .weak := by
     cases cx <;> cases cy <;> first | rfl | exact absurd ⟨(by intro z; cases z), (by intro z; cases z)⟩ hw
    rw [this]
    exact q5j hd hq (r1.append r2)
  ·cases h
 ·rename_i xs k
  split at h
  ·rename_i m
   cases h
   obtain ⟨l1, v1, e1, k1, r1⟩ := gx.lstC hd
   refine .inr ⟨l1, k, v1, e1, gy.int hd, k1, m.2.1, m.2.2, by rw [r1.length]; exact q1P m.1, λ q hq => p _ _ (q0w hq) (q3S hd hq (r1.rep _))⟩
  ·cases h
 ·cases h
theorem z0A {op : Operator} (ha : ∀ q, ra = some q -> PE X a (dE X.D E δ q)) (hb : ∀ q, rb = some q -> PE X b (dE X.D E δ q)) (h : (Re.thn ra λ x cx => Re.thn rb λ y cy => binD op x y cx cy) = some re) : PE X (.BinOp a op b pos) (dE X.D E δ re) :=
 q8i (λ _ _ => z3S z2X) ha hb h λ O W H0 H x y Q dx cx dy cy σ k hd gx gy p => z3v k hd gx gy p
theorem z1M (ha : ∀ q, ra = some q -> PE X a (dE X.D E δ q)) (h : (Re.thn ra λ x _ => match x with | .int i => some (.ok (.int (-i)) .strong) | _ => none) = some re) : PE X (.UnaryOp .USub a pos) (dE X.D E δ re) :=
 z0k (λ _ => z3Z z2N) ha h λ O W H0 H x Q dx cx σ k hd gx p => by
  split at k
  ·cases k; exact ⟨_, gx.int hd, p _ H (Same.refl H) q1f⟩
  ·cases k
theorem z3K {ds : List DV} {i : Int} : atD ds i = L2.atI ds i := rfl
theorem RepL.atI {D : Dm} {H : Hp} {ds : List DV} {xs : List V} {i : Int} {d : DV} (h : RepL D H ds xs) (e : atD ds i = some d) : ∃ v, L2.atI xs i = some v /\ Rep D H d v := by
 rw [z3K] at e
 unfold L2.atI at e ⊢
 rw [h.length]
 cases q : ixN ds.length i with
 | none => rw [q] at e; cases e
 | some j =>
  rw [q] at e
  exact h.get e
theorem z4T {O W : List Addr} {H0 H : Hp} {x y : V} {dx dy : DV} {cx cy : Cl} {Q : VK} {σ : St} (h : ((ixD dx dy).map λ d => Re.ok d cx.item) = some re) (hd : Hid O W H0 H) (gx : Got X.D O W H0 H dx cx x) (gy : Got X.D O W H0 H dy cy y)
  (p : Post X.D E σ O W H0 H Q re) : rIx X.K x y H Q := by
 obtain ⟨d, h1, h2⟩ := Option.map_eq_some_iff.mp h
 cases h2
 unfold ixD at h1
 split at h1
 ·rename_i ns i
  obtain ⟨a, e1, e2⟩ := q1S.mp (gx.all hd)
  obtain ⟨n, h3, h4⟩ := Option.map_eq_some_iff.mp h1
  cases h4
  have q : L2.atI (ns.map V.int) i = some (.int n) := by
   unfold L2.atI
   rw [List.length_map]
   have h3' : ((ixN ns.length i).bind λ j => ns[j]?) = some n := h3
   cases z : ixN ns.length i with
   | none => rw [z] at h3'; cases h3'
   | some j =>
    rw [z] at h3'
    have h5 : ns[j]? = some n := h3'
    show (ns.map V.int)[j]? = _
    rw [List.getElem?_map, h5]; rfl
  refine .inl ⟨a, _, i, _, e1, gy.int hd, e2.sq, q, p _ H (Same.refl H) ?_⟩
  cases cx <;> exact q1f
 ·obtain ⟨a, xs, e1, e2, e3⟩ := gx.lstC hd
  obtain ⟨v, q1, q2⟩ := e3.atI h1
  exact .inl ⟨a, xs, _, v, e1, gy.int hd, SqL.of e2, q1, p _ H (Same.refl H) (Got.item q2)⟩
 ·obtain ⟨a, xs, e1, e2, e3⟩ := gx.tupC hd
  obtain ⟨v, q1, q2⟩ := e3.atI h1
  exact .inr (.inl ⟨a, xs, _, v, e1, gy.int hd, e2, q1, p _ H (Same.refl H) (Got.item q2)⟩)
 ·rename_i z i
  obtain ⟨e1, e2⟩ := gx.str hd
  cases q : q2Y z.cps.size i with
  | none => rw [q] at h1; cases h1
  | some j =>
   rw [q] at h1
   obtain ⟨ch, h3, h4⟩ := Option.map_eq_some_iff.mp (show ((z.cps[j]?).map λ c => DV.str ⟨#[c]⟩) = some d from h1)
   cases h4
   refine .inr (.inr ⟨z, i, ch, e1, gy.int hd, e2, ?_, p _ H (Same.refl H) ?_⟩)
   ·unfold L2.atI
    have : ixN z.cps.toList.length i = some j := by rw [Array.length_toList]; exact q
    rw [this]
    show z.cps.toList[j]? = some ch
    rw [Array.getElem?_toList]; exact h3
   ·have one : Rep X.D (L2.wo (O ++ W) H) (.str ⟨#[ch]⟩) (.str ⟨#[ch]⟩) := q2q.mpr ⟨rfl, by show (1 : Nat) <= sizeLine; decide⟩
    have one' : Rep X.D (L2.wo O H) (.str ⟨#[ch]⟩) (.str ⟨#[ch]⟩) := q2q.mpr ⟨rfl, by show (1 : Nat) <= sizeLine; decide⟩
    cases cx <;> first | exact one | exact one'
 ·cases h1
theorem z2p (ha : ∀ q, ra = some q -> PE X a (dE X.D E δ q)) (hb : ∀ q, rb = some q -> PE X b (dE X.D E δ q)) (hs : q4L b = false) (h : (Re.thn ra λ x cx => Re.thn rb λ y _ => (ixD x y).map λ d => .ok d cx.item) = some re) : PE X (.Subscript a b pos) (dE X.D E δ re) :=
 q8i (λ _ _ h1 h2 => z4L z3o h1 h2 (by cases b <;> first | (intro _ _; rfl) | cases hs)) ha hb h λ O W H0 H x y Q dx cx dy cy σ k hd gx gy p => z4T k hd gx gy p
theorem q5l (n d : Nat) (o : Option Int) : slIx n d o = HT.sIx n d o := by cases o <;> rfl
theorem RepL.cut {D : Dm} {H : Hp} {ds : List DV} {xs : List V} (h : RepL D H ds xs) (lo hi : Option Int) : RepL D H (cutD ds lo hi) (cutV xs lo hi) := by
 unfold cutD cutV
 rw [q5l, q5l, ← h.length]
 exact (h.drop _).take _
theorem z3V {O W : List Addr} {H0 H : Hp} {x : V} {dx : DV} {cx : Cl} {Q : VK} {σ : St} {lo hi : Option Int} (h : ((slD dx lo hi).map λ d => Re.ok d (slCl dx cx)) = some re) (hd : Hid O W H0 H) (gx : Got X.D O W H0 H dx cx x)
  (p : Post X.D E σ O W H0 H Q re) : rSlL X.K x lo hi H Q \/ rSlT X.K x lo hi H Q := by
 obtain ⟨d, h1, h2⟩ := Option.map_eq_some_iff.mp h
 cases h2
 unfold slD at h1
 split at h1
 ·rename_i ns
  cases h1
  obtain ⟨a, e1, e2⟩ := q1S.mp (gx.all hd)
  exact .inl ⟨a, _, e1, e2.sq, λ q hq => p _ _ (q0w hq) (q2t hd hq ((q2H ns).cut lo hi))⟩
 ·cases h1
  obtain ⟨a, xs, e1, e2, e3⟩ := gx.lstC hd
  exact .inl ⟨a, xs, e1, SqL.of e2, λ q hq => p _ _ (q0w hq) (q3S hd hq (e3.cut lo hi))⟩
 ·rename_i ds
  split at h1
  ·cases h1
  ·rename_i m
   cases h1
   obtain ⟨a, xs, e1, e2, e3⟩ := gx.tupC hd
   refine .inr ⟨a, xs, e1, e2, ?_, λ q hq => p _ _ (q0w hq) (q6z hd hq (e3.cut lo hi))⟩
   rw [q5l, q5l, ← e3.length] at m
   exact m
 ·cases h1
theorem q7E : SlR X (λ x lo hi H Q => rSlL X.K x lo hi H Q \/ rSlT X.K x lo hi H Q) := z0U.or z3F
theorem z2m {i : Int} {cl : Cl} (h : PE X b (dE X.D E δ (.ok (.int i) cl))) : PO X (some b) (λ σ H Q => ∃ O W, RSt X.D H σ δ O W /\ ∀ H', Same H H' -> Q (some i) H') := λ pins s σ H Q I ⟨O, W, R, p⟩ =>
 q8M h pins s σ H Q I ⟨O, W, R, λ v H' s1 g => ⟨i, g.int (R.hid.mono s1), p H' s1⟩⟩
theorem z4H {c : Str} (h : PE X b (dE X.D E δ (.ex c))) : PO X (some b) (λ σ H Q => ∃ O W, RSt X.D H σ δ O W /\ Post X.D E σ O W H H (λ _ _ => False) (.ex c)) := λ pins s σ H Q I ⟨O, W, R, p⟩ =>
 q8M h pins s σ H Q I ⟨O, W, R, p⟩
theorem q9S {o : Option Expr} : PO X o (λ _ _ _ => False) := λ _ _ _ _ _ _ h => h.elim
theorem z1G {p2 : Pos} (ha : ∀ q, ra = some q -> PE X a (dE X.D E δ q)) (hb : ∀ q, rb = some q -> PE X b (dE X.D E δ q)) (h : (Re.thn ra λ x cx => Re.thn rb λ l _ => match l with
  | .int l => (slD x (some l) none).map λ d => .ok d (slCl x cx) | _ => none) = some re) : PE X (.Subscript a (.Slice (some b) none none p2) pos) (dE X.D E δ re) := by
 cases hra : ra with
 | none => rw [hra] at h; cases h
 | some q =>
  rw [hra] at h
  have A := ha q hra
  cases q with
  | ex c => cases h; exact (q4P q7E A q9S q6j).weak λ σ H Q ⟨O, W, R, p⟩ => ⟨O, W, R, p⟩
  | ok dx cx =>
   cases hrb : rb with
   | none => rw [hrb] at h; cases h
   | some q =>
    rw [hrb] at h
    have B := hb q hrb
    cases q with
    | ex c => cases h; exact (q4P q7E A (z4H B) q6j).weak λ σ H Q ⟨O, W, R, p⟩ => ⟨O, W, R, λ x H1 s1 g1 => ⟨O, W, R.mono s1, λ H' C m s => p H' C m (s1.trans s)⟩⟩
    | ok dy cy =>
     have h' : (match (generalizing := false) dy with | .int l => (slD dx (some l) none).map λ d => Re.ok d (slCl dx cx) | _ => none) = some re := h
     split at h'
     ·rename_i l
      exact (q4P q7E A (z2m B) q6j).weak λ σ H Q ⟨O, W, R, p⟩ => ⟨O, W, R, λ x H1 s1 g1 => ⟨O, W, R.mono s1, λ H2 s2 => z3V h' ((R.hid.mono s1).mono s2) (g1.mono s2) (p.step (s1.trans s2))⟩⟩
     ·cases h'
end
end L2
end
section
namespace L2
open PySem PySem.Spec PyProof.Rows
mutual
noncomputable def toP : DV -> PyData
 | .non => .none | .bl b => .bool b | .int i => .int i | .str x => .str x
 | .tup ds => .tuple (toPs ds) | .lst ds => .list (toPs ds)
 | _ => .none
noncomputable def toPs : List DV -> List PyData
 | [] => []
 | d :: r => toP d :: toPs r
end
mutual
theorem q5T : ∀ (n m : Nat) (d e : DV), d.plain n = true -> e.plain m = true -> PyData.eqv (toP d) (toP e) = deq d e
 | n, m, .non, e, _, h => by cases e <;> first | (cases m <;> simp [DV.plain] at h; done) | (simp only [toP, PyData.eqv, deq])
 | n, m, .bl _, e, _, h => by cases e <;> first | (cases m <;> simp [DV.plain] at h; done) | (simp only [toP, PyData.eqv, deq])
 | n, m, .int _, e, _, h => by cases e <;> first | (cases m <;> simp [DV.plain] at h; done) | (simp only [toP, PyData.eqv, deq])
 | n, m, .str x, e, _, h => by
  cases e with
  | str y => simp only [toP, PyData.eqv, deq]; rfl
  | non => simp only [toP, PyData.eqv, deq]
  | bl _ => simp only [toP, PyData.eqv, deq]
  | int _ => simp only [toP, PyData.eqv, deq]
  | tup _ => simp only [toP, PyData.eqv, deq]
  | lst _ => simp only [toP, PyData.eqv, deq]
  | dct _ _ => cases m <;> simp [DV.plain] at h
  | exc _ => cases m <;> simp [DV.plain] at h
  | fn _ => cases m <;> simp [DV.plain] at h
  | scr _ => cases m <;> simp [DV.plain] at h
 | 0, _, .tup _, _, h, _ => by simp [DV.plain] at h
 | 0, _, .lst _, _, h, _ => by simp [DV.plain] at h
 | n + 1, m, .tup ds, e, h, h' => by
  cases e with
  | tup es =>
   cases m with
   | zero => simp [DV.plain] at h'
   | succ m =>
    simp only [toP, PyData.eqv, deq]
    exact q5g n m ds es (by simpa [DV.plain] using h) (by simpa [DV.plain] using h')
  | non => simp only [toP, PyData.eqv, deq]
  | bl _ => simp only [toP, PyData.eqv, deq]
  | int _ => simp only [toP, PyData.eqv, deq]
  | str _ => simp only [toP, PyData.eqv, deq]
  | lst _ => simp only [toP, PyData.eqv, deq]
  | dct _ _ => cases m <;> simp [DV.plain] at h'
  | exc _ => cases m <;> simp [DV.plain] at h'
  | fn _ => cases m <;> simp [DV.plain] at h'
  | scr _ => cases m <;> simp [DV.plain] at h'
 | n + 1, m, .lst ds, e, h, h' => by
  cases e with
  | lst es =>
   cases m with
   | zero => simp [DV.plain] at h'
   | succ m =>
    simp only [toP, PyData.eqv, deq]
    exact q5g n m ds es (by simpa [DV.plain] using h) (by simpa [DV.plain] using h')
  | non => simp only [toP, PyData.eqv, deq]
  | bl _ => simp only [toP, PyData.eqv, deq]
  | int _ => simp only [toP, PyData.eqv, deq]
  | str _ => simp only [toP, PyData.eqv, deq]
  | tup _ => simp only [toP, PyData.eqv, deq]
  | dct _ _ => cases m <;> simp [DV.plain] at h'
  | exc _ => cases m <;> simp [DV.plain] at h'
  | fn _ => cases m <;> simp [DV.plain] at h'
  | scr _ => cases m <;> simp [DV.plain] at h'
 | n, _, .dct _ _, _, h, _ => by cases n <;> simp [DV.plain] at h
 | n, _, .exc _, _, h, _ => by cases n <;> simp [DV.plain] at h
 | n, _, .fn _, _, h, _ => by cases n <;> simp [DV.plain] at h
 | n, _, .scr _, _, h, _ => by cases n <;> simp [DV.plain] at h
theorem q5g : ∀ (n m : Nat) (ds es : List DV), DV.plains n ds = true -> DV.plains m es = true -> PyData.eqvAll (toPs ds) (toPs es) = deqs ds es
 | _, _, [], [], _, _ => by simp only [toPs, PyData.eqvAll, deqs]
 | _, _, [], _ :: _, _, _ => by simp only [toPs, PyData.eqvAll, deqs]
 | _, _, _ :: _, [], _, _ => by simp only [toPs, PyData.eqvAll, deqs]
 | n, m, d :: ds, e :: es, h, h' => by
  simp only [DV.plains, Bool.and_eq_true] at h h'
  simp only [toPs, PyData.eqvAll, deqs, q5T n m d e h.1 h'.1, q5g n m ds es h.2 h'.2]
end
mutual
theorem q7P : ∀ (n : Nat) (d : DV), d.plain n = true -> (toP d).canLay0 = true /\ (toP d).depth <= n
 | n, .non, _ => by simp [toP, PyData.canLay0, PyData.depth]
 | n, .bl _, _ => by simp [toP, PyData.canLay0, PyData.depth]
 | n, .int _, _ => by simp [toP, PyData.canLay0, PyData.depth]
 | n, .str x, h => by
  have h' : (x.cps.all (· < 0x110000)) = true := by cases n <;> simpa [DV.plain] using h
  simp only [toP, PyData.canLay0, PyData.depth]
  exact ⟨h', Nat.zero_le _⟩
 | 0, .tup _, h => by simp [DV.plain] at h
 | 0, .lst _, h => by simp [DV.plain] at h
 | n + 1, .tup ds, h => by
  have q := q5i n ds (by simpa [DV.plain] using h)
  simp only [toP, PyData.canLay0, PyData.depth, q.1, true_and]
  have := q.2
  omega
 | n + 1, .lst ds, h => by
  have q := q5i n ds (by simpa [DV.plain] using h)
  simp only [toP, PyData.canLay0, PyData.depth, q.1, true_and]
  have := q.2
  omega
 | n, .dct _ _, h => by cases n <;> simp [DV.plain] at h
 | n, .exc _, h => by cases n <;> simp [DV.plain] at h
 | n, .fn _, h => by cases n <;> simp [DV.plain] at h
 | n, .scr _, h => by cases n <;> simp [DV.plain] at h
theorem q5i : ∀ (n : Nat) (ds : List DV), DV.plains n ds = true -> PyData.canLayAll0 (toPs ds) = true /\ PyData.depthAll (toPs ds) <= n
 | _, [], _ => by simp [toPs, PyData.canLayAll0, PyData.depthAll]
 | n, d :: ds, h => by
  simp only [DV.plains, Bool.and_eq_true] at h
  have q := q7P n d h.1
  have q' := q5i n ds h.2
  simp only [toPs, PyData.canLayAll0, PyData.depthAll, q.1, q'.1, Bool.and_self, true_and]
  have a := q.2
  have b := q'.2
  omega
end
section
variable {X : Cx} {pins : List (Addr × Obj)} {σ : St} {H : Hp} {s : Shared}
mutual
theorem q3c (I : Inv X pins σ H s) : ∀ (n : Nat) {d : DV} {v : V} {u : Value}, d.plain n = true -> Rep X.D H d v -> RelV v u -> ∃ as, Reads s.heap u (toP d) as
 | _, .non, _, _, _, h, r => by rw [q2V.mp h] at r; cases r; exact ⟨_, Reads.none⟩
 | _, .bl b, _, _, _, h, r => by rw [q3x.mp h] at r; cases r; exact ⟨_, Reads.bool b⟩
 | _, .int i, _, _, _, h, r => by rw [q0I.mp h] at r; obtain ⟨t, rfl⟩ := r; exact ⟨_, Reads.int i t⟩
 | _, .str x, _, _, _, h, r => by rw [(q2q.mp h).1] at r; obtain ⟨t, rfl⟩ := r; exact ⟨_, Reads.str x t⟩
 | 0, .tup _, _, _, p, _, _ => by simp [DV.plain] at p
 | 0, .lst _, _, _, p, _, _ => by simp [DV.plain] at p
 | n + 1, .tup ds, _, _, p, h, r => by
  obtain ⟨a, xs, e1, e2, e3⟩ := q0T.mp h
  rw [e1] at r; cases r
  obtain ⟨its, rv, ⟨o, h1, h2, k, h3⟩, _⟩ := I.tuple e2
  obtain ⟨as, q⟩ := q4d I n (by simpa [DV.plain] using p) e3 rv
  rw [toP]
  exact ⟨as, Reads.tuple h1 h2 h3 (by simpa using q)⟩
 | n + 1, .lst ds, _, _, p, h, r => by
  obtain ⟨a, xs, e1, e2, e3⟩ := q0H.mp h
  rw [e1] at r; cases r
  obtain ⟨_, its, k, rv, _, h1⟩ := I.lstM e2
  obtain ⟨as, q⟩ := q4d I n (by simpa [DV.plain] using p) e3 rv
  rw [toP]
  exact ⟨_, Reads.list h1 rfl rfl (by simpa using q)⟩
 | n, .dct _ _, _, _, h, _, _ => by cases n <;> simp [DV.plain] at h
 | n, .exc _, _, _, h, _, _ => by cases n <;> simp [DV.plain] at h
 | n, .fn _, _, _, h, _, _ => by cases n <;> simp [DV.plain] at h
 | n, .scr _, _, _, h, _, _ => by cases n <;> simp [DV.plain] at h
theorem q4d (I : Inv X pins σ H s) : ∀ (n : Nat) {ds : List DV} {vs : List V} {us : List Value}, DV.plains n ds = true -> RepL X.D H ds vs -> Vals vs us -> ∃ as, ReadsAll s.heap us (toPs ds) as
 | _, [], _, _, _, h, r => by rw [q0C.mp h] at r; cases r; exact ⟨_, ReadsAll.nil⟩
 | n, d :: ds, _, _, p, h, r => by
  simp only [DV.plains, Bool.and_eq_true] at p
  obtain ⟨v, vs, e1, e2, e3⟩ := q0h.mp h
  subst e1
  cases r with
  | cons r1 r2 =>
   obtain ⟨as, q⟩ := q3c I n p.1 e2 r1
   obtain ⟨bs, q'⟩ := q4d I n p.2 e3 r2
   rw [toPs]
   exact ⟨_, ReadsAll.cons q q'⟩
end
theorem q3e {d : DV} (h : d.plain 60 = true) : SeqAt.shaped (toP d) = true := by
 have q := q7P 60 d h
 unfold SeqAt.shaped
 rw [q.1, Bool.true_and]
 exact decide_eq_true (Nat.le_trans q.2 (by decide))
end
section
variable {X : Cx} {E : St -> XK} {δ : List Sv} {a b c e : Expr} {pos : Pos} {ra rb rc : Option Re} {re : Re}
noncomputable def cmpR (X : Cx) (op : CmpOp) : R2 := λ x y H Q => ∃ dx dy k, cmpD op dx dy = some k /\ Rep X.D H dx x /\ Rep X.D H dy y /\ Q (.bl k) H
theorem z2T {D : Dm} {H : Hp} {d : DV} {v : V} (r : Rep D H d v) : decide (v = .non) = isN d := by
 cases d with
 | non => rw [q2V.mp r]; rfl
 | bl _ => rw [q3x.mp r]; rfl
 | int _ => rw [q0I.mp r]; rfl
 | str _ => rw [(q2q.mp r).1]; rfl
 | tup _ => obtain ⟨a, xs, e, _⟩ := q0T.mp r; rw [e]; rfl
 | lst _ => obtain ⟨a, xs, e, _⟩ := q0H.mp r; rw [e]; rfl
 | exc _ => obtain ⟨a, C, e, _⟩ := q6i.mp r; rw [e]; rfl
 | fn _ => obtain ⟨a, e, _⟩ := z2w.mp r; rw [e]; rfl
 | scr _ => obtain ⟨a, e, _⟩ := q1S.mp r; rw [e]; rfl
 | dct _ _ => obtain ⟨a, kvs, e, _⟩ := q5n.mp r; rw [e]; rfl
theorem q4x {op : CmpOp} (hu : X.A.units + 64 < cLine) : OpR X (compareOp op) (cmpR X op) := by
 intro pins s σ H x y v u Q I rx ry h
 obtain ⟨dx, dy, k, hk, r1, r2, q⟩ := h
 have fin : ∀ {k' : Bool}, k' = k -> EP X pins σ Q (.bool k') s := λ {k'} e => ⟨.bl k', H, I, rfl, by rw [e]; exact q⟩
 unfold cmpD at hk
 split at hk
 ·cases hk; exact z4D pins s σ H x y v u Q I rx ry ⟨_, _, q0I.mp r1, q0I.mp r2, q⟩
 ·cases hk; exact z4a pins s σ H x y v u Q I rx ry ⟨_, _, q0I.mp r1, q0I.mp r2, q⟩
 ·cases hk; exact z3T pins s σ H x y v u Q I rx ry ⟨_, _, q0I.mp r1, q0I.mp r2, q⟩
 ·split at hk
  ·rename_i p
   rw [Bool.and_eq_true] at p
   cases hk
   obtain ⟨as, q1⟩ := q3c I 60 p.1 r1 rx
   obtain ⟨bs, q2⟩ := q3c I 60 p.2 r2 ry
   exact eq_dataH q1 q2 (q3e p.1) (q3e p.2) hu (fin (q5T 60 60 _ _ p.1 p.2))
  ·cases hk
 ·split at hk
  ·rename_i p
   rw [Bool.and_eq_true] at p
   cases hk
   obtain ⟨as, q1⟩ := q3c I 60 p.1 r1 rx
   obtain ⟨bs, q2⟩ := q3c I 60 p.2 r2 ry
   exact ne_dataH q1 q2 (q3e p.1) (q3e p.2) hu (fin (by rw [q5T 60 60 _ _ p.1 p.2]))
  ·cases hk
 ·cases hk; exact z2x pins s σ H x y v u Q I rx ry ⟨q2V.mp r2, by rw [z2T r1]; exact q⟩
 ·cases hk
theorem q4j {op : CmpOp} {b : Expr} (h : q2N b = false) : behindInMarks op b = false := by
 cases b <;> first | rfl | cases h
theorem z1V {op : CmpOp} (hu : X.A.units + 64 < cLine) (ha : ∀ q, ra = some q -> PE X a (dE X.D E δ q)) (hb : ∀ q, rb = some q -> PE X b (dE X.D E δ q)) (hs : q2N b = false)
  (h : (Re.thn ra λ x _ => Re.thn rb λ y _ => (cmpD op x y).map λ k => .ok (.bl k) .strong) = some re) : PE X (.Compare a [op] [b] pos) (dE X.D E δ re) :=
 q8i (λ _ _ h1 h2 => z0T (q4x hu) h1 h2 (q4j hs)) ha hb h λ O W H0 H x y Q dx cx dy cy σ k hd gx gy p => by
  obtain ⟨k', e1, e2⟩ := Option.map_eq_some_iff.mp k
  cases e2
  exact ⟨dx, dy, k', e1, gx.all hd, gy.all hd, p _ H (Same.refl H) q3i⟩
theorem q8E {op : CmpOp} (ha : ∀ q, ra = some q -> PE X a (dE X.D E δ q)) (hb : ∀ q, rb = some q -> PE X b (dE X.D E δ q))
  (h : (Re.thn ra λ x _ => Re.thn rb λ y _ => (cmpD op x y).map λ k => .ok (.bl k) .strong) = some re) : ∃ ta tb, PE X a ta /\ PE X b tb /\ ∀ σ H Q, dE X.D E δ re σ H Q -> tOp (cmpR X op) ta tb σ H Q :=
 q6H ha hb h λ O W H0 H x y Q dx cx dy cy σ k hd gx gy p => by
  obtain ⟨k', e1, e2⟩ := Option.map_eq_some_iff.mp k
  cases e2
  exact ⟨dx, dy, k', e1, gx.all hd, gy.all hd, p _ H (Same.refl H) q3i⟩
theorem z0r {r : Rt} {σ : St} {H : Hp} {Q : Bool -> Hp -> Prop} (hb : ∀ d c, re = .ok d c -> ∃ k, d = .bl k) (h : tstD (some re) = some r) (q : dT X.D E δ r σ H Q) : dE X.D E δ re σ H (λ x H' => ∃ k, x = .bl k /\ Q k H') := by
 obtain ⟨O, W, R, p⟩ := q
 cases re with
 | ex c => cases h; exact ⟨O, W, R, p⟩
 | ok d c =>
  obtain ⟨k, rfl⟩ := hb d c rfl
  cases h
  exact ⟨O, W, R, λ v H' s g => ⟨k, g.bl (R.hid.mono s), p H' s⟩⟩
theorem z3i {op : CmpOp} (h : (Re.thn ra λ x _ => Re.thn rb λ y _ => (cmpD op x y).map λ k => .ok (.bl k) .strong) = some re) : ∀ d c, re = .ok d c -> ∃ k, d = .bl k := by
 intro d c e
 subst e
 cases ra with
 | none => cases h
 | some q =>
  cases q with
  | ex c => cases h
  | ok d c =>
   cases rb with
   | none => cases h
   | some q =>
    cases q with
    | ex c => cases h
    | ok d' c' =>
     obtain ⟨k, _, e⟩ := Option.map_eq_some_iff.mp (show ((cmpD op d d').map λ k => Re.ok (.bl k) .strong) = _ from h)
     cases e
     exact ⟨k, rfl⟩
theorem q9J {op : CmpOp} {r : Rt} (hu : X.A.units + 64 < cLine) (ha : ∀ q, ra = some q -> PE X a (dE X.D E δ q)) (hb : ∀ q, rb = some q -> PE X b (dE X.D E δ q)) (hs : q2N b = false)
  (h : tstD (Re.thn ra λ x _ => Re.thn rb λ y _ => (cmpD op x y).map λ k => .ok (.bl k) .strong) = some r) : PT X (.Compare a [op] [b] pos) (dT X.D E δ r) := by
 cases q : (Re.thn ra λ x _ => Re.thn rb λ y _ => (cmpD op x y).map λ k => Re.ok (.bl k) .strong) with
 | none => rw [q] at h; cases h
 | some re =>
  rw [q] at h
  obtain ⟨ta, tb, A, B, w⟩ := q8E ha hb q
  exact (z2c (q4x hu) A B (q4j hs)).weak λ σ H Q z => w σ H _ (z0r (z3i q) h z)
theorem q3C {op op' : CmpOp} {b c : Expr} (h : q2N c = false) : lastMarks [op, op'] [b, c] = false := by
 show behindInMarks op' c = false
 exact q4j h
theorem q3Z {op op' : CmpOp} (ha : ∀ q, ra = some q -> PE X a (dE X.D E δ q)) (hb : ∀ q, rb = some q -> PE X b (dE X.D E δ q)) (hc : ∀ q, rc = some q -> PE X c (dE X.D E δ q))
  (h : (Re.thn ra λ x _ => Re.thn rb λ y _ => match cmpD op x y with
   | none => none
   | some false => some (.ok (.bl false) .strong)
   | some true => Re.thn rc λ z _ => (cmpD op' y z).map λ k => .ok (.bl k) .strong) = some re) : ∃ ta tb tc, PE X a ta /\ PE X b tb /\ PE X c tc /\ (∀ σ H Q, dE X.D E δ re σ H Q -> q7H (cmpR X op) (cmpR X op') ta tb tc σ H Q) /\ ∀ d cl, re = .ok d cl -> ∃ k, d = .bl k := by
 cases hra : ra with
 | none => rw [hra] at h; cases h
 | some q =>
  rw [hra] at h
  have A := ha q hra
  cases q with
  | ex c => cases h; exact ⟨_, _, _, A, q1W, q1W, λ σ H Q ⟨O, W, R, p⟩ => ⟨O, W, R, p⟩, λ d cl z => nomatch z⟩
  | ok dx cx =>
   cases hrb : rb with
   | none => rw [hrb] at h; cases h
   | some q =>
    rw [hrb] at h
    have B := hb q hrb
    cases q with
    | ex c => cases h; exact ⟨_, _, _, A, B, q1W, λ σ H Q ⟨O, W, R, p⟩ => ⟨O, W, R, λ x H1 s1 g1 => ⟨O, W, R.mono s1, λ H' C m s => p H' C m (s1.trans s)⟩⟩, λ d cl z => nomatch z⟩
    | ok dy cy =>
     have h' : (match (generalizing := false) cmpD op dx dy with
      | none => none
      | some false => some (Re.ok (.bl false) .strong)
      | some true => Re.thn rc λ z _ => (cmpD op' dy z).map λ k => .ok (.bl k) .strong) = some re := h
     split at h'
     ·cases h'
     ·rename_i e1
      cases h'
      exact ⟨_, _, _, A, B, q1W, λ σ H Q ⟨O, W, R, p⟩ => ⟨O, W, R, λ x H1 s1 g1 => ⟨O, W, R.mono s1, λ y H2 s2 g2 =>
       ⟨dx, dy, false, e1, (g1.mono s2).all ((R.hid.mono s1).mono s2), g2.all ((R.mono s1).hid.mono s2), false, rfl, by rw [if_neg Bool.false_ne_true]; exact p _ _ (s1.trans s2) q3i⟩⟩⟩, λ d cl z => by cases z; exact ⟨_, rfl⟩⟩
     ·rename_i e1
      cases hrc : rc with
      | none => rw [hrc] at h'; cases h'
      | some q =>
       rw [hrc] at h'
       have C := hc q hrc
       cases q with
       | ex c' =>
        cases h'
        exact ⟨_, _, _, A, B, C, λ σ H Q ⟨O, W, R, p⟩ => ⟨O, W, R, λ x H1 s1 g1 => ⟨O, W, R.mono s1, λ y H2 s2 g2 =>
         ⟨dx, dy, true, e1, (g1.mono s2).all ((R.hid.mono s1).mono s2), g2.all ((R.mono s1).hid.mono s2), true, rfl, by rw [if_pos rfl]; exact ⟨O, W, (R.mono s1).mono s2, λ H' C m s => p H' C m (s1.trans (s2.trans s))⟩⟩⟩⟩, λ d cl z => nomatch z⟩
       | ok dz cz =>
        obtain ⟨k, e2, e3⟩ := Option.map_eq_some_iff.mp (show ((cmpD op' dy dz).map λ k => Re.ok (.bl k) .strong) = some re from h')
        cases e3
        exact ⟨_, _, _, A, B, C, λ σ H Q ⟨O, W, R, p⟩ => ⟨O, W, R, λ x H1 s1 g1 => ⟨O, W, R.mono s1, λ y H2 s2 g2 =>
         ⟨dx, dy, true, e1, (g1.mono s2).all ((R.hid.mono s1).mono s2), g2.all ((R.mono s1).hid.mono s2), true, rfl, by
          rw [if_pos rfl]
          exact ⟨O, W, (R.mono s1).mono s2, λ z H3 s3 g3 => ⟨dy, dz, k, e2, (g2.mono s3).all (((R.mono s1).hid.mono s2).mono s3), g3.all (((R.mono s1).mono s2).hid.mono s3), p _ _ (s1.trans (s2.trans s3)) q3i⟩⟩⟩⟩⟩, λ d cl z => by cases z; exact ⟨_, rfl⟩⟩
theorem q8c {op op' : CmpOp} (hu : X.A.units + 64 < cLine) (ha : ∀ q, ra = some q -> PE X a (dE X.D E δ q)) (hb : ∀ q, rb = some q -> PE X b (dE X.D E δ q)) (hc : ∀ q, rc = some q -> PE X c (dE X.D E δ q)) (hs : q2N c = false)
  (h : (Re.thn ra λ x _ => Re.thn rb λ y _ => match cmpD op x y with
   | none => none
   | some false => some (.ok (.bl false) .strong)
   | some true => Re.thn rc λ z _ => (cmpD op' y z).map λ k => .ok (.bl k) .strong) = some re) : PE X (.Compare a [op, op'] [b, c] pos) (dE X.D E δ re) := by
 obtain ⟨ta, tb, tc, A, B, C, w, _⟩ := q3Z ha hb hc h
 exact (q8W (q4x hu) (q4x hu) A B C (q3C hs)).weak w
theorem q7a {op op' : CmpOp} {r : Rt} (hu : X.A.units + 64 < cLine) (ha : ∀ q, ra = some q -> PE X a (dE X.D E δ q)) (hb : ∀ q, rb = some q -> PE X b (dE X.D E δ q)) (hc : ∀ q, rc = some q -> PE X c (dE X.D E δ q)) (hs : q2N c = false)
  (h : tstD (Re.thn ra λ x _ => Re.thn rb λ y _ => match cmpD op x y with
   | none => none
   | some false => some (.ok (.bl false) .strong)
   | some true => Re.thn rc λ z _ => (cmpD op' y z).map λ k => .ok (.bl k) .strong) = some r) : PT X (.Compare a [op, op'] [b, c] pos) (dT X.D E δ r) := by
 cases q : (Re.thn ra λ x _ => Re.thn rb λ y _ => match cmpD op x y with
   | none => none
   | some false => some (Re.ok (.bl false) .strong)
   | some true => Re.thn rc λ z _ => (cmpD op' y z).map λ k => .ok (.bl k) .strong) with
 | none => rw [q] at h; cases h
 | some re =>
  rw [q] at h
  obtain ⟨ta, tb, tc, A, B, C, w, hbl⟩ := q3Z ha hb hc q
  exact (q9F (q4x hu) (q4x hu) A B C (q3C hs)).weak λ σ H Q z => w σ H _ (z0r hbl h z)
end
section
variable {X : Cx} {E : St -> XK} {δ : List Sv} {a b c e : Expr} {es : List Expr} {pos : Pos} {ra : Option Re} {rt ru : Option Rt} {r : Rt} {re : Re}
theorem q4B {D : Dm} {H : Hp} {d : DV} {v : V} {k : Bool} (h : q2i d = some k) (r : Rep D H d v) : TruV D.K v H k := by
 cases d with
 | non => cases h; rw [q2V.mp r]; rfl
 | bl b => cases h; rw [q3x.mp r]; rfl
 | int i => cases h; rw [q0I.mp r]; rfl
 | str x =>
  cases h
  obtain ⟨e1, e2⟩ := q2q.mp r
  rw [e1]
  refine ⟨e2, ?_⟩
  show (x.cps.size != 0) = (((x.cps.size : Nat) : Int) != 0)
  cases x.cps.size with
  | zero => rfl
  | succ n => simp only [bne, Nat.add_eq_zero_iff]; rw [Bool.eq_iff_iff]; simp; omega
 | tup ds =>
  cases h
  obtain ⟨a, xs, e1, e2, e3⟩ := q0T.mp r
  rw [e1]
  refine .inr (.inl ⟨xs, e2, ?_⟩)
  have := e3.length
  cases xs <;> cases ds <;> first | rfl | cases this
 | lst ds =>
  cases h
  obtain ⟨a, xs, e1, e2, e3⟩ := q0H.mp r
  rw [e1]
  refine .inl ⟨xs, SqL.of e2, ?_⟩
  have := e3.length
  cases xs <;> cases ds <;> first | rfl | cases this
 | dct _ _ => cases h
 | exc _ => cases h
 | fn _ => cases h
 | scr _ => cases h
theorem q8f (ha : ∀ q, ra = some q -> PE X e (dE X.D E δ q)) (he : ∀ whole, isTrue e X.env whole = (do let v ← whole; standAt e.pos; holding [v] (truthy v))) (h : tstD ra = some r) : PT X e (dT X.D E δ r) := by
 cases hra : ra with
 | none => rw [hra] at h; cases h
 | some q =>
  rw [hra] at h
  have A := ha q hra
  cases q with
  | ex c => cases h; exact (q6C A he).weak λ σ H Q ⟨O, W, R, p⟩ => ⟨O, W, R, p⟩
  | ok d cl =>
   obtain ⟨k, e1, e2⟩ := Option.map_eq_some_iff.mp (show (q2i d).map Rt.ok = some r from h)
   cases e2
   exact (q6C A he).weak λ σ H Q ⟨O, W, R, p⟩ => ⟨O, W, R, λ x H1 s1 g1 => ⟨k, q4B e1 (g1.all (R.hid.mono s1)), p H1 s1⟩⟩
theorem z1g {ta : TE} (ha : PE X a ta) : PE X (.UnaryOp .Not a pos) (tUn (λ x H Q => ∃ k, TruV X.K x H k /\ Q (.bl (!k)) H) ta) := by
 intro pins s σ H Q I h
 refine UnaryOp_ (thn (ha pins s σ H _ I h) λ v s1 ⟨x, H1, I1, r1, q1⟩ => ?_)
 obtain ⟨k, t, q1⟩ := q1
 exact not_of (thn (q6L pins s1 σ H1 x v (λ b H' => b = k /\ H' = H1) I1 r1 ⟨k, t, rfl, rfl⟩) λ b s2 ⟨H2, I2, e1, e2⟩ => by
  subst e1 e2
  exact ⟨.bl (!b), H2, I2, rfl, q1⟩)
theorem z1j (ha : ∀ q, ra = some q -> PE X a (dE X.D E δ q)) (h : (Re.thn ra λ x _ => (q2i x).map λ k => .ok (.bl (!k)) .strong) = some re) : PE X (.UnaryOp .Not a pos) (dE X.D E δ re) :=
 z0k (λ _ => z1g) ha h λ O W H0 H x Q dx cx σ k hd gx p => by
  obtain ⟨b, e1, e2⟩ := Option.map_eq_some_iff.mp k
  cases e2
  exact ⟨b, q4B e1 (gx.all hd), p _ H (Same.refl H) q3i⟩
theorem q5Y {ta tb : TE} (ha : PE X a ta) (hb : PE X (.BoolOp .And (b :: es) pos) tb) : PE X (.BoolOp .And (a :: b :: es) pos) (λ σ H Q => ta σ H λ x H1 => ∃ k, TruV X.K x H1 k /\ if k = true then tb σ H1 Q else Q x H1) := by
 intro pins s σ H Q I h
 refine BoolOp_and (thn (ha pins s σ H _ I h) λ v s1 ⟨x, H1, I1, r1, q1⟩ => ?_)
 obtain ⟨k, t, q1⟩ := q1
 refine thn (q6L pins s1 σ H1 x v (λ b H' => b = k /\ H' = H1) I1 r1 ⟨k, t, rfl, rfl⟩) λ c s2 ⟨H2, I2, e1, e2⟩ => ?_
 subst e1 e2
 cases c with
 | true => exact hb pins s2 σ H2 Q I2 q1
 | false => exact ⟨x, H2, I2, r1, q1⟩
theorem q8b {ta tb : TE} (ha : PE X a ta) (hb : PE X (.BoolOp .Or (b :: es) pos) tb) : PE X (.BoolOp .Or (a :: b :: es) pos) (λ σ H Q => ta σ H λ x H1 => ∃ k, TruV X.K x H1 k /\ if k = true then Q x H1 else tb σ H1 Q) := by
 intro pins s σ H Q I h
 refine BoolOp_or (thn (ha pins s σ H _ I h) λ v s1 ⟨x, H1, I1, r1, q1⟩ => ?_)
 obtain ⟨k, t, q1⟩ := q1
 refine thn (q6L pins s1 σ H1 x v (λ b H' => b = k /\ H' = H1) I1 r1 ⟨k, t, rfl, rfl⟩) λ c s2 ⟨H2, I2, e1, e2⟩ => ?_
 subst e1 e2
 cases c with
 | false => exact hb pins s2 σ H2 Q I2 q1
 | true => exact ⟨x, H2, I2, r1, q1⟩
theorem z0I {rb : Option Re} (ha : ∀ q, ra = some q -> PE X a (dE X.D E δ q)) (hb : ∀ q, rb = some q -> PE X (.BoolOp .And (b :: es) pos) (dE X.D E δ q)) (h : (Re.thn ra λ x c => andD x c rb) = some re) : PE X (.BoolOp .And (a :: b :: es) pos) (dE X.D E δ re) := by
 cases hra : ra with
 | none => rw [hra] at h; cases h
 | some q =>
  rw [hra] at h
  have A := ha q hra
  cases q with
  | ex c => cases h; exact (q5Y A q1W).weak λ σ H Q ⟨O, W, R, p⟩ => ⟨O, W, R, p⟩
  | ok d cl =>
   have h' : andD d cl rb = some re := h
   unfold andD at h'
   split at h'
   ·cases h'
   ·rename_i t
    exact (q5Y A (hb re h')).weak λ σ H Q ⟨O, W, R, p⟩ => ⟨O, W, R, λ x H1 s1 g1 => ⟨true, q4B t (g1.all (R.hid.mono s1)), iteT ⟨O, W, R.mono s1, p.later s1 s1⟩⟩⟩
   ·rename_i t
    cases h'
    exact (q5Y A q1W).weak λ σ H Q ⟨O, W, R, p⟩ => ⟨O, W, R, λ x H1 s1 g1 => ⟨false, q4B t (g1.all (R.hid.mono s1)), iteF (p _ H1 s1 g1)⟩⟩
theorem z2Q {rb : Option Re} (ha : ∀ q, ra = some q -> PE X a (dE X.D E δ q)) (hb : ∀ q, rb = some q -> PE X (.BoolOp .Or (b :: es) pos) (dE X.D E δ q)) (h : (Re.thn ra λ x c => orD x c rb) = some re) : PE X (.BoolOp .Or (a :: b :: es) pos) (dE X.D E δ re) := by
 cases hra : ra with
 | none => rw [hra] at h; cases h
 | some q =>
  rw [hra] at h
  have A := ha q hra
  cases q with
  | ex c => cases h; exact (q8b A q1W).weak λ σ H Q ⟨O, W, R, p⟩ => ⟨O, W, R, p⟩
  | ok d cl =>
   have h' : orD d cl rb = some re := h
   unfold orD at h'
   split at h'
   ·cases h'
   ·rename_i t
    cases h'
    exact (q8b A q1W).weak λ σ H Q ⟨O, W, R, p⟩ => ⟨O, W, R, λ x H1 s1 g1 => ⟨true, q4B t (g1.all (R.hid.mono s1)), iteT (p _ H1 s1 g1)⟩⟩
   ·rename_i t
    exact (q8b A (hb re h')).weak λ σ H Q ⟨O, W, R, p⟩ => ⟨O, W, R, λ x H1 s1 g1 => ⟨false, q4B t (g1.all (R.hid.mono s1)), iteF ⟨O, W, R.mono s1, p.later s1 s1⟩⟩⟩
theorem q6m {k : DV -> Cl -> Option Re} (h : tstD (Re.thn ra k) = some r) : (ra = none /\ False) \/ (∃ c, ra = some (.ex c) /\ r = .ex c) \/ ∃ d c, ra = some (.ok d c) /\ tstD (k d c) = some r := by
 cases hra : ra with
 | none => rw [hra] at h; cases h
 | some q =>
  rw [hra] at h
  cases q with
  | ex c => cases h; exact .inr (.inl ⟨c, rfl, rfl⟩)
  | ok d c => exact .inr (.inr ⟨d, c, rfl, h⟩)
theorem q9Y {d : DV} {c : Cl} {r : Rt} (h : tstD (some (.ok d c)) = some r) : ∃ k, q2i d = some k /\ r = .ok k := by
 obtain ⟨k, e1, e2⟩ := Option.map_eq_some_iff.mp (show (q2i d).map Rt.ok = some r from h)
 exact ⟨k, e1, e2.symm⟩
theorem q9j (ha : ∀ q, tstD ra = some q -> PT X a (dT X.D E δ q)) (h : tstD (Re.thn ra λ x _ => (q2i x).map λ k => .ok (.bl (!k)) .strong) = some r) : PT X (.UnaryOp .Not a pos) (dT X.D E δ r) := by
 rcases q6m h with ⟨_, z⟩ | ⟨c, e1, e2⟩ | ⟨d, c, e1, e2⟩
 ·exact z.elim
 ·subst e1 e2
  exact (z0v (ha (.ex c) rfl)).weak λ σ H Q ⟨O, W, R, p⟩ => ⟨O, W, R, p⟩
 ·cases t : q2i d with
  | none => rw [t] at e2; cases e2
  | some k =>
   rw [t] at e2
   cases e2
   have A := ha (.ok k) (by rw [e1]; show (q2i d).map Rt.ok = _; rw [t]; rfl)
   exact (z0v A).weak λ σ H Q ⟨O, W, R, p⟩ => ⟨O, W, R, λ H1 s1 => p H1 s1⟩
theorem q9k {rb : Option Re} (ha : ∀ q, tstD ra = some q -> PT X a (dT X.D E δ q)) (hb : ∀ q, tstD rb = some q -> PW X (.BoolOp .And (b :: es) pos) (dT X.D E δ q)) (h : tstD (Re.thn ra λ x c => andD x c rb) = some r) : PW X (.BoolOp .And (a :: b :: es) pos) (dT X.D E δ r) := by
 rcases q6m h with ⟨_, z⟩ | ⟨c, e1, e2⟩ | ⟨d, c, e1, e2⟩
 ·exact z.elim
 ·subst e1 e2
  exact (q7B (ha (.ex c) rfl) q4O).weak λ σ H Q ⟨O, W, R, p⟩ => ⟨O, W, R, p⟩
 ·unfold andD at e2
  cases t : q2i d with
  | none => rw [t] at e2; cases e2
  | some k =>
   rw [t] at e2
   have A := ha (.ok k) (by rw [e1]; show (q2i d).map Rt.ok = _; rw [t]; rfl)
   cases k with
   | true => exact (q7B A (hb r e2)).weak λ σ H Q ⟨O, W, R, p⟩ => ⟨O, W, R, λ H1 s1 => iteT ⟨O, W, R.mono s1, p.later s1⟩⟩
   | false =>
    obtain ⟨k, t', rfl⟩ := q9Y e2
    rw [t] at t'; cases t'
    exact (q7B A q4O).weak λ σ H Q ⟨O, W, R, p⟩ => ⟨O, W, R, λ H1 s1 => iteF (p H1 s1)⟩
theorem z0V {rb : Option Re} (ha : ∀ q, tstD ra = some q -> PT X a (dT X.D E δ q)) (hb : ∀ q, tstD rb = some q -> PW X (.BoolOp .Or (b :: es) pos) (dT X.D E δ q)) (h : tstD (Re.thn ra λ x c => orD x c rb) = some r) : PW X (.BoolOp .Or (a :: b :: es) pos) (dT X.D E δ r) := by
 rcases q6m h with ⟨_, z⟩ | ⟨c, e1, e2⟩ | ⟨d, c, e1, e2⟩
 ·exact z.elim
 ·subst e1 e2
  exact (z1J (ha (.ex c) rfl) q4O).weak λ σ H Q ⟨O, W, R, p⟩ => ⟨O, W, R, p⟩
 ·unfold orD at e2
  cases t : q2i d with
  | none => rw [t] at e2; cases e2
  | some k =>
   rw [t] at e2
   have A := ha (.ok k) (by rw [e1]; show (q2i d).map Rt.ok = _; rw [t]; rfl)
   cases k with
   | false => exact (z1J A (hb r e2)).weak λ σ H Q ⟨O, W, R, p⟩ => ⟨O, W, R, λ H1 s1 => iteF ⟨O, W, R.mono s1, p.later s1⟩⟩
   | true =>
    obtain ⟨k, t', rfl⟩ := q9Y e2
    rw [t] at t'; cases t'
    exact (z1J A q4O).weak λ σ H Q ⟨O, W, R, p⟩ => ⟨O, W, R, λ H1 s1 => iteT (p H1 s1)⟩
theorem q0j {e : Expr} {es : List Expr} {env : Env} (h : q0x e = false) : starEach (e :: es) env = (false, eval e env) :: starEach es env := by
 cases e <;> first | rfl | cases h
theorem q9w : PA X [] (dA X.D E δ (.ok [])) := q2C.weak λ σ H Q ⟨O, W, R, p⟩ => p [] H (Same.refl H) .nil
theorem q7S {rs : Option Rs} {q : Rs} (hs : q0x e = false) (ha : ∀ q, ra = some q -> PE X e (dE X.D E δ q)) (hb : ∀ q, rs = some q -> PA X es (dA X.D E δ q))
  (h : (match (generalizing := false) ra with | none => none | some (.ex c) => some (Rs.ex c) | some (.ok d c) => (match (generalizing := false) rs with | none => none | some (.ex c) => some (.ex c) | some (.ok l) => some (.ok ((d, c) :: l)))) = some q) : PA X (e :: es) (dA X.D E δ q) := by
 cases hra : ra with
 | none => rw [hra] at h; cases h
 | some z =>
  rw [hra] at h
  have A := ha z hra
  cases z with
  | ex c => cases h; exact (q0N A z1U (q0j hs)).weak λ σ H Q ⟨O, W, R, p⟩ => ⟨O, W, R, p⟩
  | ok d cl =>
   cases hrs : rs with
   | none => rw [hrs] at h; cases h
   | some y =>
    rw [hrs] at h
    have B := hb y hrs
    cases y with
    | ex c => cases h; exact (q0N A B (q0j hs)).weak λ σ H Q ⟨O, W, R, p⟩ => ⟨O, W, R, λ x H1 s1 g1 => ⟨O, W, R.mono s1, λ H' C m s => p H' C m (s1.trans s)⟩⟩
    | ok l =>
     cases h
     exact (q0N A B (q0j hs)).weak λ σ H Q ⟨O, W, R, p⟩ => ⟨O, W, R, λ x H1 s1 g1 => ⟨O, W, R.mono s1, λ vs H2 s2 g2 => p _ H2 (s1.trans s2) (.cons (g1.mono s2) (g2.since s1))⟩⟩
theorem z1p {rs : Option Rs} (ha : ∀ q, rs = some q -> PA X es (dA X.D E δ q)) (h : (Rs.thn rs λ l => if l.length <= mostLen then some (.ok (.lst (l.map (·.1))) (if stros l then .fresh else .weak)) else none) = some re) : PE X (.List es pos) (dE X.D E δ re) :=
 q3R (r := λ vs H Q => vs.length <= sizeLine /\ ∀ p, H p = none -> Q (.ref p) (upd H p (.lst vs))) (λ _ => z2D) ha h λ O W H0 H vs Q l σ k hd g p => by
  split at k
  ·rename_i m
   cases k
   refine ⟨by rw [g.length]; exact q1P m, λ q hq => p _ _ (q0w hq) ?_⟩
   by_cases z : stros l = true
   ·rw [if_pos z]; exact q2t hd hq (g.stros hd z)
   ·rw [if_neg z]; exact q5j hd hq (g.repL hd)
  ·cases k
theorem z0Z {rs : Option Rs} {x1 : Nat} (ha : ∀ q, rs = some q -> PA X es (dA X.D E δ q)) (h : (Rs.thn rs λ l => if l.length <= mostLen then some (.ok (.tup (l.map (·.1))) (if stros l then .strong else .weak)) else none) = some re) : PE X (.Tuple es x1 pos) (dE X.D E δ re) :=
 q3R (r := λ vs H Q => vs.length <= sizeLine /\ ∀ p, H p = none -> Q (.ref p) (upd H p (.tup vs))) (λ _ => q7t) ha h λ O W H0 H vs Q l σ k hd g p => by
  split at k
  ·rename_i m
   cases k
   refine ⟨by rw [g.length]; exact q1P m, λ q hq => p _ _ (q0w hq) ?_⟩
   by_cases z : stros l = true
   ·rw [if_pos z]; exact q4r hd hq (g.stros hd z)
   ·rw [if_neg z]; exact q6s hd hq (g.repL hd)
  ·cases k
end
end L2
end
section
namespace L2
open PySem PySem.Spec PyProof.Rows
noncomputable def GotR (D : Dm) (O : List Addr) (H0 H : Hp) (d : DV) (fr : Bool) (v : V) : Prop := match fr with
 | false => Rep D (L2.wo O H) d v
 | true => ∃ p xs ds, v = .ref p /\ d = .lst ds /\ H0 p = none /\ H p = some (.lst xs) /\ RepL D (L2.wo (p :: O) H) ds xs
noncomputable def GotF (H H' : Hp) (xs : List DV) (v : V) : Prop := ∃ (p : Addr) (L : List (Addr × List Int)), v = .ref p /\ xs = L.map (λ q => .lst (q.2.map DV.int)) /\ H p = none /\ H' p = some (.lst (L.map λ q => .ref q.1)) /\ (∀ q ∈ L, H q.1 = none /\ H' q.1 = some (.lst (q.2.map V.int))) /\ (p :: L.map (·.1)).Nodup
theorem GotF.since {H0 H1 H : Hp} {xs : List DV} {v : V} (g : GotF H1 H xs v) (f : ∀ a, H1 a = none -> H0 a = none) : GotF H0 H xs v := by
 obtain ⟨p, L, e1, e2, e3, e4, e5, e6⟩ := g
 exact ⟨p, L, e1, e2, f _ e3, e4, λ q hq => ⟨f _ (e5 q hq).1, (e5 q hq).2⟩, e6⟩
theorem GotF.items {D : Dm} {H0 H : Hp} {xs : List DV} {v : V} {Z : List Addr} (g : GotF H0 H xs v) (hz : ∀ a ∈ Z, H0 a ≠ none) : ∃ p vs, v = .ref p /\ H0 p = none /\ H p = some (.lst vs) /\ RepL D (L2.wo (p :: Z) H) xs vs := by
 obtain ⟨p, L, e1, e2, e3, e4, e5, e6⟩ := g
 refine ⟨p, _, e1, e3, e4, ?_⟩
 rw [e2]
 refine q6p λ q hq => ?_
 rw [q0t λ z => ?_]
 ·exact (e5 q hq).2
 ·rcases List.mem_cons.mp z with z | z
  ·exact (List.nodup_cons.mp e6).1 (List.mem_map.mpr ⟨q, hq, z⟩)
  ·exact hz _ z (e5 q hq).1
theorem GotF.fresh {D : Dm} {O W : List Addr} {H0 H1 H : Hp} {xs : List DV} {v : V} (g : GotF H0 H xs v) (hd : Hid O W H0 H1) : Got D O W H0 H (.lst xs) .fresh v := by
 obtain ⟨p, vs, e1, e2, e3, e4⟩ := g.items (D := D) (Z := O ++ W) hd.ot
 exact ⟨p, vs, xs, e1, rfl, e2, e3, e4⟩
noncomputable def GotT (D : Dm) (O : List Addr) (H0 H : Hp) (d : DV) (v : V) : Prop := (∃ t ts p xs ds es, v = .ref t /\ d = .tup (.lst ds :: es) /\ SqT D.K (L2.wo O H) t (.ref p :: ts) /\ H0 p = none /\ H p = some (.lst xs) /\ RepL D (L2.wo (p :: O) H) ds xs /\ RepL D (L2.wo (p :: O) H) es ts) \/ ∃ xs, d = .lst xs /\ GotF H0 H xs v
noncomputable def spF (D : Dm) (n : Nat) (f : List DV -> Option Ou) : Sp := λ vs H Q E => ∃ O ds o, (∀ a ∈ O, H a ≠ none) /\ ds.length = n /\ RepL D (L2.wo O H) ds vs /\ f ds = some o /\
 (match o with | .v d fr => ∀ v H', Same H H' -> GotR D O H H' d fr v -> Q v H' | .t d => ∀ v H', Same H H' -> GotT D O H H' d v -> Q v H' | .x c => ∀ H' C, D.mg c = some C -> Same H H' -> E C none H')
noncomputable def spH (D : Dm) (f : DV -> List DV -> Option (DV × List DV)) : Sp := λ vs H Q _ => ∃ O p v d ds xs r, vs = [v, .ref p] /\ (∀ a ∈ O, H a ≠ none) /\ p ∉ O /\ H p = some (.lst xs) /\ Rep D (L2.wo (O ++ [p]) H) d v /\ RepL D (L2.wo (O ++ [p]) H) ds xs /\ f d ds = some r /\
 ∀ v' H' xs', Same (L2.wo [p] H) H' -> H' p = some (.lst xs') -> Rep D (L2.wo (O ++ [p]) H') r.1 v' -> RepL D (L2.wo (O ++ [p]) H') r.2 xs' -> Q v' H'
section
variable {X : Cx} {E : St -> XK} {δ : List Sv} {e : Expr} {es : List Expr} {pos p : Pos} {re : Re} {rs : Option Rs} {k : Nat} {fa : Addr} {fd : FuncData} {ps : List Str} {x : Str}
theorem q9v {F : Nat -> List DV -> Option Ou} {f : Nat} (fo : FnOk X.prog X.w X.K X.mg X.base (CXx X.prog X.w X.base) k fa fd ps (spF X.D ps.length (F f))) (hn : ∀ ds o, F f ds = some o -> ds.length = ps.length) (hr : Room k X.A) (hg : Gl X x) (hm : X.mg x = some (.ref fa)) (hk : PySem.W.keepIn X.K (.ref fa) = true)
  (hb : q2T X.K fd ps []) (hx : q3v (CXx X.prog X.w X.base) X E) (ha : ∀ q, rs = some q -> PA X (e :: es) (dA X.D E δ q)) (hdb : (x == ("__debug__" : Str)) = false) (hs : q0x e = false) (hss : es.any q0x = false)
  (h : (Rs.thn rs λ l => q3o F f l) = some re) : PE X (.Call (.Name x p) (e :: es) [] pos) (dE X.D E δ re) := by
 have plain : ∀ (es : List Expr), es.any q0x = false -> (backTo pos (starEach es X.env)).any (·.1) = false := by
  intro es
  induction es with
  | nil => intro _; rfl
  | cons y ys ih =>
   intro q
   rw [List.any_cons, Bool.or_eq_false_iff] at q
   rw [q0j q.1]
   show (false || (backTo pos (starEach ys X.env)).any (·.1)) = false
   rw [ih q.2]; rfl
 have C := λ t (hA : PA X (e :: es) t) => q4X (p := p) (pos := pos) fo hr hg hm hk hb .nil hx hA hdb (q0j hs) (plain es hss)
 cases hrs : rs with
 | none => rw [hrs] at h; cases h
 | some q =>
  rw [hrs] at h
  have A := ha q hrs
  cases q with
  | ex c => cases h; exact (C _ A).weak λ σ H Q ⟨O, W, R, p⟩ => ⟨O, W, R, p⟩
  | ok l =>
   have h' : q3o F f l = some re := h
   unfold q3o at h'
   split at h'
   ·cases h'
   ·rename_i c e1
    cases h'
    refine (C _ A).weak λ σ H Q ⟨O, W, R, p⟩ => ⟨O, W, R, λ vs H1 s1 g1 => ?_⟩
    have hd := R.hid.mono s1
    show spF X.D ps.length (F f) (vs ++ []) H1 Q (E σ)
    rw [List.append_nil]
    exact ⟨O, _, _, λ a ha q => hd.ot a (List.mem_append_left _ ha) (s1.free q), hn _ _ e1, g1.repL hd, e1, λ H' C m s => p H' C m (s1.trans s)⟩
   ·rename_i d e1
    cases h'
    refine (C _ A).weak λ σ H Q ⟨O, W, R, p⟩ => ⟨O, W, R, λ vs H1 s1 g1 => ?_⟩
    have hd := R.hid.mono s1
    show spF X.D ps.length (F f) (vs ++ []) H1 Q (E σ)
    rw [List.append_nil]
    by_cases z : (l.all λ p => p.2 == .strong || p.2 == .fresh) = true
    ·rw [if_pos z] at p
     refine ⟨O ++ W, _, _, λ a ha q => hd.ot a ha (s1.free q), hn _ _ e1, g1.strong hd z, e1, λ v H' s g => p v H' (s1.trans s) ?_⟩
     rcases g with ⟨t, ts, q, xs, ds, es, f1, f2, f0, f3, f4, f5, f6⟩ | ⟨xs, f1, f2⟩
     ·subst f2
      exact ⟨t, ts, q, xs, ds, es, f1, rfl, f0, s1.free f3, f4, f5, f6⟩
     ·subst f1
      exact (f2.since λ a ha => s1.free ha).fresh hd
    ·rw [if_neg z] at p
     refine ⟨O, _, _, λ a ha q => hd.ot a (List.mem_append_left _ ha) (s1.free q), hn _ _ e1, g1.repL hd, e1, λ v H' s g => p v H' (s1.trans s) ?_⟩
     rcases g with ⟨t, ts, q, xs, ds, es, f1, f2, f0, f3, f4, f5, f6⟩ | ⟨xs, f1, f2⟩
     ·have hq : q ∉ O := λ z => hd.ot q (List.mem_append_left _ z) (s1.free f3)
      have up : Same (L2.wo (q :: O) H') (L2.wo O H') := q0U λ b hb => List.mem_cons_of_mem _ hb
      rw [f2]
      exact q0T.mpr ⟨t, _, f1, f0, q0h.mpr ⟨_, _, rfl, q0H.mpr ⟨q, xs, rfl, by rw [q0t hq]; exact f4, f5.mono up⟩, f6.mono up⟩⟩
     ·subst f1
      have hO : ∀ a ∈ O, H1 a ≠ none := λ a ha q => hd.ot a (List.mem_append_left _ ha) (s1.free q)
      obtain ⟨q, vs, g1', g2', g3', g4'⟩ := f2.items (D := X.D) hO
      have hq : q ∉ O := λ z => hO q z g2'
      exact q0H.mpr ⟨q, vs, g1', by rw [q0t hq]; exact g3', g4'.mono (q0U λ b hb => List.mem_cons_of_mem _ hb)⟩
   ·rename_i d fr e1
    cases h'
    refine (C _ A).weak λ σ H Q ⟨O, W, R, p⟩ => ⟨O, W, R, λ vs H1 s1 g1 => ?_⟩
    have hd := R.hid.mono s1
    show spF X.D ps.length (F f) (vs ++ []) H1 Q (E σ)
    rw [List.append_nil]
    by_cases z : (l.all λ p => p.2 == .strong || p.2 == .fresh) = true
    ·rw [if_pos z] at p
     refine ⟨O ++ W, _, _, λ a ha q => hd.ot a ha (s1.free q), hn _ _ e1, g1.strong hd z, e1, λ v H' s g => p v H' (s1.trans s) ?_⟩
     cases fr with
     | false => exact g
     | true =>
      obtain ⟨q, xs, ds, e1, e2, e3, e4, e5⟩ := g
      exact ⟨q, xs, ds, e1, e2, s1.free e3, e4, e5⟩
    ·rw [if_neg z] at p
     refine ⟨O, _, _, λ a ha q => hd.ot a (List.mem_append_left _ ha) (s1.free q), hn _ _ e1, g1.repL hd, e1, λ v H' s g => p v H' (s1.trans s) ?_⟩
     cases fr with
     | false => exact g
     | true =>
      obtain ⟨q, xs, ds, e1, e2, e3, e4, e5⟩ := g
      have hq : q ∉ O := λ z => hd.ot q (List.mem_append_left _ z) (s1.free e3)
      rw [e2]
      exact q0H.mpr ⟨q, xs, e1, by rw [q0t hq]; exact e4, e5.mono (q0U λ b hb => List.mem_cons_of_mem _ hb)⟩
end
section
variable {X : Cx} {E : St -> XK} {δ : List Sv} {e : Expr} {es : List Expr} {pos p : Pos} {re : Re} {rs : Option Rs}
theorem q3s {env : Env} {pos : Pos} : ∀ (es : List Expr), es.any q0x = false -> (backTo pos (starEach es env)).any (·.1) = false
 | [], _ => rfl
 | y :: ys, q => by
  rw [List.any_cons, Bool.or_eq_false_iff] at q
  rw [q0j q.1]
  show (false || (backTo pos (starEach ys env)).any (·.1)) = false
  rw [q3s ys q.2]; rfl
noncomputable def biR (X : Cx) (k : List (DV × Cl) -> Option Re) : List V -> Hp -> VK -> Prop := λ vs H Q => ∃ l re O W H0, k l = some re /\ Hid O W H0 H /\ GotL X.D O W H0 H l vs /\ ∃ d c, re = .ok d c /\ ∀ v H', Same H H' -> Got X.D O W H0 H' d c v -> Q v H'
theorem q7F {k : List (DV × Cl) -> Option Re} {x : Str} {id : String} (hc : q1L X (.builtin id) (biR X k)) (hk : ∀ l re, k l = some re -> ∃ d c, re = .ok d c) (hg : Gl X x) (hm : X.mg x = none) (hv : bootBuiltins x = some (.builtin id)) (hn : x ≠ "__name__") (hdb : (x == ("__debug__" : Str)) = false)
  (ha : ∀ q, rs = some q -> PA X (e :: es) (dA X.D E δ q)) (hs : q0x e = false) (hss : es.any q0x = false) (h : Rs.thn rs k = some re) : PE X (.Call (.Name x p) (e :: es) [] pos) (dE X.D E δ re) :=
 q3R (λ _ hA => q3Q hc hg hm hv hA hn hdb (q0j hs) (q3s es hss)) ha h λ O W H0 H vs Q l σ hl hd g p => by
  obtain ⟨d, c, rfl⟩ := hk l re hl
  exact ⟨l, _, O, W, H0, hl, hd, g, d, c, rfl, p⟩
theorem q8K {k : List (DV × Cl) -> Option Re} {x : Str} {T : String} (hc : q1L X (.type T) (biR X k)) (hk : ∀ l re, k l = some re -> ∃ d c, re = .ok d c) (hg : Gl X x) (hm : X.mg x = none) (hv : bootBuiltins x = some (.type T)) (hn : x ≠ "__name__") (hdb : (x == ("__debug__" : Str)) = false)
  (ha : ∀ q, rs = some q -> PA X (e :: es) (dA X.D E δ q)) (hs : q0x e = false) (hss : es.any q0x = false) (h : Rs.thn rs k = some re) : PE X (.Call (.Name x p) (e :: es) [] pos) (dE X.D E δ re) :=
 q3R (λ _ hA => q8V hc hg hm hv hA hn hdb (q0j hs) (q3s es hss)) ha h λ O W H0 H vs Q l σ hl hd g p => by
  obtain ⟨d, c, rfl⟩ := hk l re hl
  exact ⟨l, _, O, W, H0, hl, hd, g, d, c, rfl, p⟩
theorem z1L : ∀ l re, lenD l = some re -> ∃ d c, re = .ok d c := λ l re h => by unfold lenD at h; split at h <;> cases h <;> exact ⟨_, _, rfl⟩
theorem z1E : ∀ l re, minD l = some re -> ∃ d c, re = .ok d c := λ l re h => by
 unfold minD at h
 split at h
 ·cases h; exact ⟨_, _, rfl⟩
 ·split at h
  ·cases h; exact ⟨_, _, rfl⟩
  ·split at h
   ·cases h; exact ⟨_, _, rfl⟩
   ·cases h
 ·split at h
  ·cases h; exact ⟨_, _, rfl⟩
  ·cases h
 ·cases h
theorem z1c : ∀ l re, maxD l = some re -> ∃ d c, re = .ok d c := λ l re h => by
 unfold maxD at h
 split at h
 ·cases h; exact ⟨_, _, rfl⟩
 ·split at h
  ·cases h; exact ⟨_, _, rfl⟩
  ·cases h
 ·cases h
theorem q3L {D : Dm} {H : Hp} : ∀ {ds : List DV} {ns : List Int} {xs : List V}, ints? ds = some ns -> RepL D H ds xs -> xs = ns.map V.int
 | [], ns, xs, h, r => by
  cases h
  exact q0C.mp r
 | .int i :: ds, ns, xs, h, r => by
  have h' : (ints? ds).map (i :: ·) = some ns := h
  obtain ⟨ms, e1, e2⟩ := Option.map_eq_some_iff.mp h'
  obtain ⟨v, vs, e3, e4, e5⟩ := q0h.mp r
  have q := q3L e1 e5
  rw [← e2, e3, List.map_cons, q0I.mp e4, q]
 | .non :: ds, ns, xs, h, _ => by cases h
 | .bl _ :: ds, ns, xs, h, _ => by cases h
 | .str _ :: ds, ns, xs, h, _ => by cases h
 | .tup _ :: ds, ns, xs, h, _ => by cases h
 | .lst _ :: ds, ns, xs, h, _ => by cases h
 | .dct _ _ :: ds, ns, xs, h, _ => by cases h
 | .exc _ :: ds, ns, xs, h, _ => by cases h
 | .fn _ :: ds, ns, xs, h, _ => by cases h
 | .scr _ :: ds, ns, xs, h, _ => by cases h
theorem q6y : ∀ (r : List Int) (m : Int), (minI m r = m \/ minI m r ∈ r) /\ minI m r <= m /\ ∀ x ∈ r, minI m r <= x
 | [], m => ⟨.inl rfl, Int.le_refl _, λ x h => by cases h⟩
 | y :: r, m => by
  obtain ⟨h0, h1, h2⟩ := q6y r (if y < m then y else m)
  unfold minI
  by_cases q : y < m
  ·rw [if_pos q] at h0 h1 h2 ⊢
   refine ⟨.inr ?_, by omega, λ x hx => ?_⟩
   ·rcases h0 with z | z
    ·rw [z]; exact List.mem_cons_self ..
    ·exact List.mem_cons_of_mem _ z
   ·rcases List.mem_cons.mp hx with z | z
    ·rw [z]; exact h1
    ·exact h2 x z
  ·rw [if_neg q] at h0 h1 h2 ⊢
   refine ⟨h0.imp id (List.mem_cons_of_mem _), h1, λ x hx => ?_⟩
   rcases List.mem_cons.mp hx with z | z
   ·rw [z]; omega
   ·exact h2 x z
theorem q5N : ∀ (r : List Int) (m : Int), (maxI m r = m \/ maxI m r ∈ r) /\ m <= maxI m r /\ ∀ x ∈ r, x <= maxI m r
 | [], m => ⟨.inl rfl, Int.le_refl _, λ x h => by cases h⟩
 | y :: r, m => by
  obtain ⟨h0, h1, h2⟩ := q5N r (if m < y then y else m)
  unfold maxI
  by_cases q : m < y
  ·rw [if_pos q] at h0 h1 h2 ⊢
   refine ⟨.inr ?_, by omega, λ x hx => ?_⟩
   ·rcases h0 with z | z
    ·rw [z]; exact List.mem_cons_self ..
    ·exact List.mem_cons_of_mem _ z
   ·rcases List.mem_cons.mp hx with z | z
    ·rw [z]; exact h1
    ·exact h2 x z
  ·rw [if_neg q] at h0 h1 h2 ⊢
   refine ⟨h0.imp id (List.mem_cons_of_mem _), h1, λ x hx => ?_⟩
   rcases List.mem_cons.mp hx with z | z
   ·rw [z]; omega
   ·exact h2 x z
theorem q6F {n M : Int} {r : List Int} (h1 : M ∈ n :: r) (h2 : ∀ x ∈ n :: r, M <= x) : M = minI n r := by
 obtain ⟨a, b, c⟩ := q6y r n
 have d : minI n r ∈ n :: r := a.elim (λ z => by rw [z]; exact List.mem_cons_self ..) (List.mem_cons_of_mem _)
 have e := h2 _ d
 have f : minI n r <= M := by
  rcases List.mem_cons.mp h1 with z | z
  ·rw [z]; exact b
  ·exact c M z
 omega
theorem q9l {n M : Int} {r : List Int} (h1 : M ∈ n :: r) (h2 : ∀ x ∈ n :: r, x <= M) : M = maxI n r := by
 obtain ⟨a, b, c⟩ := q5N r n
 have d : maxI n r ∈ n :: r := a.elim (λ z => by rw [z]; exact List.mem_cons_self ..) (List.mem_cons_of_mem _)
 have e := h2 _ d
 have f : M <= maxI n r := by
  rcases List.mem_cons.mp h1 with z | z
  ·rw [z]; exact b
  ·exact c M z
 omega
theorem q9y : ∀ l re, q8U l = some re -> ∃ d c, re = .ok d c := λ l re h => by unfold q8U at h; split at h <;> cases h <;> exact ⟨_, _, rfl⟩
theorem q7R : ∀ l re, q5R l = some re -> ∃ d c, re = .ok d c := λ l re h => by unfold q5R at h; split at h <;> cases h <;> exact ⟨_, _, rfl⟩
theorem z2R : q1L X (.builtin "len") (biR X lenD) := by
 intro pins s σ H xs us Q I r h
 obtain ⟨l, re, O, W, H0, hb, hd, g, d, c, rfl, p⟩ := h
 unfold lenD at hb
 split at hb
 ·cases hb
  obtain ⟨v, rfl, gv⟩ := g.one
  obtain ⟨a, ys, e1, e2, e3⟩ := gv.lst hd
  exact q2F pins s σ H _ us Q I r ⟨a, ys, by rw [e1], .inl (SqL.of e2), by rw [e3.length]; exact p _ H (Same.refl H) q1f⟩
 ·cases hb
  obtain ⟨v, rfl, gv⟩ := g.one
  obtain ⟨a, ys, e1, e2, e3⟩ := gv.tup hd
  exact q2F pins s σ H _ us Q I r ⟨a, ys, by rw [e1], .inr e2, by rw [e3.length]; exact p _ H (Same.refl H) q1f⟩
 ·cases hb
  obtain ⟨v, rfl, gv⟩ := g.one
  obtain ⟨a, e1, e2⟩ := q1S.mp (gv.all hd)
  exact q2F pins s σ H _ us Q I r ⟨a, _, by rw [e1], .inl e2.sq, by rw [List.length_map]; exact p _ H (Same.refl H) q1f⟩
 ·cases hb
  obtain ⟨v, rfl, gv⟩ := g.one
  obtain ⟨e1, e2⟩ := gv.str hd
  exact q5H pins s σ H _ us Q I r ⟨_, by rw [e1], e2, p _ H (Same.refl H) q1f⟩
 ·cases hb
theorem q5w : ∀ {ds : List DV} {ps : List (Int × Int × Int)} {i : Nat}, trips? ds = some ps -> i < ps.length -> ds[i]? = some (trD (ps.getD i (0, 0, 0)))
 | [], ps, i, h, hi => by cases h; simp at hi
 | d0 :: ds, ps, i, h, hi => by
  unfold trips? at h
  split at h
  ·rename_i q; cases q
  ·rename_i a b c r' q
   cases q
   obtain ⟨ms, e1, e2⟩ := Option.map_eq_some_iff.mp h
   subst e2
   cases i with
   | zero => rfl
   | succ i => exact q5w (ds := ds) e1 (by simpa using hi)
  ·cases h
theorem q5B {D : Dm} {H : Hp} : ∀ {ds : List DV} {ps : List (Int × Int × Int)} {xs : List V}, trips? ds = some ps -> RepL D H ds xs -> TrsV D.K H xs ps
 | [], ps, xs, h, r => by
  cases h
  rw [q0C.mp r]
  exact trivial
 | d0 :: ds, ps, xs, h, r => by
  unfold trips? at h
  split at h
  ·rename_i q; cases q
  ·rename_i a b c r' q
   cases q
   obtain ⟨ms, e1, e2⟩ := Option.map_eq_some_iff.mp h
   obtain ⟨v, vs, e3, e4, e5⟩ := q0h.mp r
   have q := q5B e1 e5
   obtain ⟨c', ys, f1, f2, f3⟩ := q0T.mp e4
   obtain ⟨v1, l1, g1, g2, g3⟩ := q0h.mp f3
   obtain ⟨v2, l2, g4, g5, g6⟩ := q0h.mp g3
   obtain ⟨v3, l3, g7, g8, g9⟩ := q0h.mp g6
   rw [← e2, e3]
   refine ⟨⟨c', f1, ?_⟩, q⟩
   rw [g1, g4, g7, q0C.mp g9, q0I.mp g2, q0I.mp g5, q0I.mp g8] at f2
   exact f2
  ·cases h
theorem TrsV.le {K : PySem.W.Frag} {H H' : Hp} (e : Same H H') : ∀ {vs : List V} {ps : List (Int × Int × Int)}, TrsV K H vs ps -> TrsV K H' vs ps
 | [], [], _ => trivial
 | _ :: _, _ :: _, x => by
  obtain ⟨⟨a, h1, h2⟩, h3⟩ := x
  exact ⟨⟨a, h1, e.tseq h2⟩, h3.le e⟩
 | [], _ :: _, x => x.elim
 | _ :: _, [], x => x.elim
theorem z3d (hc : X.calm = true) (hu : X.A.units + 1 < cLine) : q1L X (.builtin "min") (biR X minD) := by
 intro pins s σ H xs us Q I r h
 obtain ⟨l, re, O, W, H0, hb, hd, g, d, c, rfl, p⟩ := h
 unfold minD at hb
 split at hb
 ·cases hb
  obtain ⟨v, v', rfl, gv, gv'⟩ := g.two
  exact q8F hc pins s σ H _ us Q I r ⟨_, _, by rw [gv.int hd, gv'.int hd], p _ H (Same.refl H) q1f⟩
 ·split at hb
  ·rename_i n r' hq
   cases hb
   obtain ⟨v, rfl, gv⟩ := g.one
   obtain ⟨a, ys, e1, e2, e3⟩ := gv.lst hd
   have e4 := q3L hq e3
   subst e4
   exact q8G hc pins s σ H _ us Q I r ⟨a, n :: r', by rw [e1], SqL.of e2, by simp, λ M m1 m2 => by rw [q6F m1 m2]; exact p _ H (Same.refl H) q1f⟩
  ·split at hb
   ·rename_i n r' hq
    cases hb
    obtain ⟨v, rfl, gv⟩ := g.one
    obtain ⟨a, ys, e1, e2, e3⟩ := gv.lstC hd
    refine q8B hc hu pins s σ H _ us Q I r ⟨a, ys, n, r', by rw [e1], SqL.of e2, (q5B hq e3).le q1y, λ i x f1 f2 f3 => p _ H (Same.refl H) ?_⟩
    obtain ⟨z, g1, g2⟩ := e3.get (q5w hq f3)
    rw [f1] at g1
    cases g1
    rw [f2] at g2
    exact Got.item g2
   ·cases hb
 ·split at hb
  ·rename_i n r' hq
   cases hb
   obtain ⟨v, rfl, gv⟩ := g.one
   obtain ⟨a, ys, e1, e2, e3⟩ := gv.tup hd
   have e4 := q3L hq e3
   subst e4
   exact q8a hc pins s σ H _ us Q I r ⟨a, n :: r', by rw [e1], e2, by simp, λ M m1 m2 => by rw [q6F m1 m2]; exact p _ H (Same.refl H) q1f⟩
  ·cases hb
 ·cases hb
theorem z3h (hc : X.calm = true) : q1L X (.builtin "max") (biR X maxD) := by
 intro pins s σ H xs us Q I r h
 obtain ⟨l, re, O, W, H0, hb, hd, g, d, c, rfl, p⟩ := h
 unfold maxD at hb
 split at hb
 ·cases hb
  obtain ⟨v, v', rfl, gv, gv'⟩ := g.two
  exact q8y hc pins s σ H _ us Q I r ⟨_, _, by rw [gv.int hd, gv'.int hd], p _ H (Same.refl H) q1f⟩
 ·split at hb
  ·rename_i n r' hq
   cases hb
   obtain ⟨v, rfl, gv⟩ := g.one
   obtain ⟨a, ys, e1, e2, e3⟩ := gv.lst hd
   have e4 := q3L hq e3
   subst e4
   exact q8A hc pins s σ H _ us Q I r ⟨a, n :: r', by rw [e1], SqL.of e2, by simp, λ M m1 m2 => by rw [q9l m1 m2]; exact p _ H (Same.refl H) q1f⟩
  ·cases hb
 ·cases hb
theorem z1l : q1L X (.type "list") (biR X q8U) := by
 intro pins s σ H xs us Q I r h
 obtain ⟨l, re, O, W, H0, hb, hd, g, d, c, rfl, p⟩ := h
 unfold q8U at hb
 split at hb
 ·cases hb
  obtain ⟨v, rfl, gv⟩ := g.one
  obtain ⟨a, e1, e2⟩ := q1S.mp (gv.all hd)
  exact q2z pins s σ H _ us Q I r ⟨a, _, by rw [e1], .inl e2.sq, λ q hq => p _ _ (q0w hq) (q2t hd hq (q2H _))⟩
 ·cases hb
  obtain ⟨v, rfl, gv⟩ := g.one
  obtain ⟨a, ys, e1, e2, e3⟩ := gv.lstC hd
  exact q2z pins s σ H _ us Q I r ⟨a, ys, by rw [e1], .inl (SqL.of e2), λ q hq => p _ _ (q0w hq) (q3S hd hq e3)⟩
 ·cases hb
  obtain ⟨v, rfl, gv⟩ := g.one
  obtain ⟨a, ys, e1, e2, e3⟩ := gv.tupC hd
  exact q2z pins s σ H _ us Q I r ⟨a, ys, by rw [e1], .inr e2, λ q hq => p _ _ (q0w hq) (q3S hd hq e3)⟩
 ·cases hb
theorem q9u : q1L X (.type "tuple") (biR X q5R) := by
 intro pins s σ H xs us Q I r h
 obtain ⟨l, re, O, W, H0, hb, hd, g, d, c, rfl, p⟩ := h
 unfold q5R at hb
 split at hb
 ·cases hb
  obtain ⟨v, rfl, gv⟩ := g.one
  obtain ⟨a, ys, e1, e2, e3⟩ := gv.lstC hd
  exact q3j pins s σ H _ us Q I r ⟨a, ys, by rw [e1], .inl ⟨SqL.of e2, λ q hq => p _ _ (q0w hq) (q6z hd hq e3)⟩⟩
 ·cases hb
  obtain ⟨v, rfl, gv⟩ := g.one
  obtain ⟨a, ys, e1, e2, e3⟩ := gv.tupC hd
  exact q3j pins s σ H _ us Q I r ⟨a, ys, by rw [e1], .inr ⟨e2, p _ _ (Same.refl H) (by rw [← e1]; exact gv)⟩⟩
 ·cases hb
end
noncomputable def tyS : DV -> Option String
 | .non => some "NoneType" | .bl _ => some "bool" | .int _ => some "int" | .str _ => some "str" | .tup _ => some "tuple" | .lst _ => some "list" | .dct _ _ => some "dict"
 | _ => none
noncomputable def z2O (T t : String) : Option Bool := if (Value.type T == Value.type t) = true then some true else if PySem.W.kitMeta t = true then (fastBuiltinMro T).map (·.contains (.type t)) else none
theorem q8e : (["NoneType", "bool", "int", "str", "tuple", "list", "dict"] : List String).all (λ T => (["int", "bool", "str", "list", "tuple", "dict"] : List String).all λ t => z2O T t == some (T == t || (T == "bool" && t == "int"))) = true := by decide +kernel
theorem q3l {K : PySem.W.Frag} (T t : String) (h1 : T ∈ ["NoneType", "bool", "int", "str", "tuple", "list", "dict"]) (h2 : t ∈ ["int", "bool", "str", "list", "tuple", "dict"]) :
  PySem.W.kitOne K (.type T) (.type t) = some (T == t || (T == "bool" && t == "int")) := by
 have q := List.all_eq_true.mp (List.all_eq_true.mp q8e T h1) t h2
 exact (show z2O T t = _ from by simpa using q)
section
variable {X : Cx} {E : St -> XK} {δ : List Sv} {e e' : Expr} {pos p p' : Pos} {re : Re} {ra : Option Re}
theorem q8l {pins : List (Addr × Obj)} {σ : St} {H : Hp} {s : Shared} {Q : Value -> Shared -> Prop} {EE : Value -> Shared -> Prop} {d : DV} {v : V} {u : Value} {T t : String} (I : Inv X pins σ H s) (r : Rep X.D H d v) (rv : RelV v u) (hT : tyS d = some T) (ht : t ∈ ["int", "bool", "str", "list", "tuple", "dict"])
  (h : ∀ tk, Q (.bool (T == t || (T == "bool" && t == "int"))) { s with toks := tk }) : wpAny (model X.prog X.w) X.A (call (.builtin "isinstance") [u, .type t]) Q EE s := by
 cases d with
 | non => cases hT; rw [q2V.mp r] at rv; cases rv; exact PySem.W.kia_one PySem.W.kitx_none I.kIn True.intro (q3l _ _ (by simp) ht) (λ z => nomatch z) h
 | bl b => cases hT; rw [q3x.mp r] at rv; cases rv; exact PySem.W.kia_one PySem.W.kitx_bool I.kIn True.intro (q3l _ _ (by simp) ht) (λ z => nomatch z) h
 | int b => cases hT; rw [q0I.mp r] at rv; obtain ⟨tk, rfl⟩ := rv; exact PySem.W.kia_one PySem.W.kitx_int I.kIn True.intro (q3l _ _ (by simp) ht) (λ z => nomatch z) h
 | str b => cases hT; rw [(q2q.mp r).1] at rv; obtain ⟨tk, rfl⟩ := rv; exact PySem.W.kia_one PySem.W.kitx_str I.kIn True.intro (q3l _ _ (by simp) ht) (λ z => nomatch z) h
 | tup ds =>
  cases hT
  obtain ⟨a, xs, e1, e2, e3⟩ := q0T.mp r
  rw [e1] at rv; cases rv
  obtain ⟨its, _, ⟨o, h1, h2, _⟩, _⟩ := I.tuple e2
  exact PySem.W.kia_one PySem.W.kitx_tuple I.kIn ⟨o, h1, h2⟩ (q3l _ _ (by simp) ht) (λ z => nomatch z) h
 | lst ds =>
  cases hT
  obtain ⟨a, xs, e1, e2, e3⟩ := q0H.mp r
  rw [e1] at rv; cases rv
  obtain ⟨_, its, n, _, _, h1⟩ := I.lstM e2
  exact PySem.W.kia_one PySem.W.kitx_list I.kIn ⟨_, h1, rfl⟩ (q3l _ _ (by simp) ht) (λ z => nomatch z) h
 | dct ks vs =>
  cases hT
  obtain ⟨a, kvs, e1, e2⟩ := q5n.mp r
  rw [e1] at rv; cases rv
  obtain ⟨_, _, _, _, ⟨o, _, _, h1, h2, _⟩⟩ := (show q1K X.prog X.w H s.heap a (.dK kvs) from I.hok a _ e2)
  exact PySem.W.kia_one PySem.W.kitx_dict I.kIn ⟨o, h1, h2.1⟩ (q3l _ _ (by simp) ht) (λ z => nomatch z) h
 | exc _ => cases hT
 | fn _ => cases hT
 | scr _ => cases hT
noncomputable def rIsi (X : Cx) : List V -> Hp -> VK -> Prop := λ xs H Q => ∃ d T t x, xs = [x, .ty t] /\ Rep X.D H d x /\ tyS d = some T /\ t ∈ ["int", "bool", "str", "list", "tuple", "dict"] /\ Q (.bl (T == t || (T == "bool" && t == "int"))) H
theorem q9c : q1L X (.builtin "isinstance") (rIsi X) := by
 intro pins s σ H xs us Q I r h
 obtain ⟨d, T, t, x, rfl, r1, hT, ht, q⟩ := h
 obtain ⟨u, w', rfl, ru, rw'⟩ := q6e r
 cases rw'
 exact q8l I r1 ru hT ht λ tk => ⟨.bl _, H, I.tok tk, rfl, q⟩
noncomputable def q3D : Str -> Option String := λ x => (["int", "bool", "str", "list", "tuple", "dict"] : List String).find? λ t => Str.ofString t == x
theorem q5m {x : Str} {t : String} (h : q3D x = some t) : bootBuiltins x = some (.type t) /\ t ∈ ["int", "bool", "str", "list", "tuple", "dict"] /\ Str.ofString t = x := by
 unfold q3D at h
 have h1 := List.find?_some h
 have h2 := List.mem_of_find?_eq_some h
 have h3 : Str.ofString t = x := by simpa using h1
 refine ⟨?_, h2, h3⟩
 subst h3
 simp only [List.mem_cons, List.not_mem_nil, or_false] at h2
 rcases h2 with rfl | rfl | rfl | rfl | rfl | rfl
 ·exact boot_int
 ·exact boot_bool
 ·exact boot_str
 ·exact boot_list
 ·exact boot_tuple
 ·exact boot_dict
noncomputable def q7Q : String -> List Str
 | "NoneType" => ["NoneType"] | "bool" => ["bool", "int"] | "int" => ["int"] | "str" => ["str"] | "tuple" => ["tuple"] | "list" => ["list"] | "dict" => ["dict"]
 | _ => []
theorem q6l : (["NoneType", "bool", "int", "str", "tuple", "list", "dict"] : List String).all (λ T => (["int", "bool", "str", "list", "tuple", "dict"] : List String).all λ t => (q7Q T).contains (Str.ofString t) == (T == t || (T == "bool" && t == "int"))) = true := by decide +kernel
theorem q7w {d : DV} {x : Str} {t T : String} (h : q3D x = some t) (hT : tyS d = some T) : (tyOf d).contains x = (T == t || (T == "bool" && t == "int")) := by
 obtain ⟨_, h2, h3⟩ := q5m h
 subst h3
 have key : ∀ T ∈ (["NoneType", "bool", "int", "str", "tuple", "list", "dict"] : List String), (q7Q T).contains (Str.ofString t) = (T == t || (T == "bool" && t == "int")) := λ T hT => by
  have q := List.all_eq_true.mp (List.all_eq_true.mp q6l T hT) t h2
  simpa using q
 cases d <;> cases hT
 ·exact key "NoneType" (by simp)
 ·exact key "bool" (by simp)
 ·exact key "int" (by simp)
 ·exact key "str" (by simp)
 ·exact key "tuple" (by simp)
 ·exact key "list" (by simp)
 ·exact key "dict" (by simp)
theorem z1Z {G : Gs} {x : Str} {t : String} (ht : q3D x = some t) (hg : Gl X "isinstance") (hm : X.mg "isinstance" = none) (hgx : Gl X x) (hmx : X.mg x = none) (hnx : x ≠ "__name__") (hdx : (x == ("__debug__" : Str)) = false)
  (ha : ∀ q, ra = some q -> PE X e (dE X.D E δ q)) (hs : q0x e = false) (h : (Re.thn ra λ y _ => (isiD G y [x]).map λ k => .ok (.bl k) .strong) = some re) : PE X (.Call (.Name "isinstance" p) [e, .Name x p'] [] pos) (dE X.D E δ re) := by
 obtain ⟨b1, b2, b3⟩ := q5m ht
 have T : PE X (.Name x p') (tC (.ty t)) := q4Y hgx hmx b1 rfl hnx hdx
 have C := λ ta (hA : PE X e ta) => q3Q (p := p) (pos := pos) q9c hg hm boot_isinstance (q0N hA (q0N T q2C) (q0j hs)) (by decide) (by decide) (q0j hs)
 cases hra : ra with
 | none => rw [hra] at h; cases h
 | some q =>
  rw [hra] at h
  have A := ha q hra
  cases q with
  | ex c => cases h; exact (C _ A).weak λ σ H Q ⟨O, W, R, p⟩ => ⟨O, W, R, p⟩
  | ok d cl =>
   obtain ⟨k, e1, e2⟩ := Option.map_eq_some_iff.mp (show ((isiD G d [x]).map λ k => Re.ok (.bl k) .strong) = some re from h)
   cases e2
   have key : ∃ T, tyS d = some T /\ k = (tyOf d).contains x := by
    unfold isiD at e1
    have px : q1p.contains x = true := by
     rw [← b3]
     simp only [List.mem_cons, List.not_mem_nil, or_false] at b2
     rcases b2 with rfl | rfl | rfl | rfl | rfl | rfl <;> decide +kernel
    cases d <;> first
     | (simp only [px, if_true] at e1; cases e1; exact ⟨_, rfl, rfl⟩)
     | cases e1
   obtain ⟨T, hT, hk⟩ := key
   exact (C _ A).weak λ σ H Q ⟨O, W, R, p⟩ => ⟨O, W, R, λ v H1 s1 g1 => ⟨d, T, t, v, rfl, g1.all (R.hid.mono s1), hT, b2, by rw [← q7w ht hT, ← hk]; exact p _ H1 s1 q3i⟩⟩
end
end L2
end
section
namespace L2
open PySem PySem.Spec PyProof.Rows
noncomputable def tyIs (T t : String) : Bool := T == t || (T == "bool" && t == "int")
theorem z2b {K : PySem.W.Frag} {T t1 t2 : String} (h : T ∈ ["NoneType", "bool", "int", "str", "tuple", "list", "dict"]) (h1 : t1 ∈ ["int", "bool", "str", "list", "tuple", "dict"]) (h2 : t2 ∈ ["int", "bool", "str", "list", "tuple", "dict"]) :
  PySem.W.kitAny K (.type T) [.type t1, .type t2] = some (tyIs T t1 || tyIs T t2) := by
 have e1 : PySem.W.kitOne K (.type T) (.type t1) = some (tyIs T t1) := q3l T t1 h h1
 have e2 : PySem.W.kitOne K (.type T) (.type t2) = some (tyIs T t2) := q3l T t2 h h2
 unfold PySem.W.kitAny
 rw [e1]
 cases tyIs T t1 with
 | true => rfl
 | false =>
  show PySem.W.kitAny K (.type T) [.type t2] = _
  unfold PySem.W.kitAny
  rw [e2]
  cases tyIs T t2 <;> rfl
section
variable {X : Cx} {E : St -> XK} {δ : List Sv} {e : Expr} {pos p : Pos} {ra : Option Re} {re : Re}
theorem z2L {pins : List (Addr × Obj)} {σ : St} {H : Hp} {s : Shared} {d : DV} {v : V} {u : Value} {T : String} (I : Inv X pins σ H s) (r : Rep X.D H d v) (rv : RelV v u) (hT : tyS d = some T) :
  ∃ HH : Heap -> Prop, PySem.W.KitX X.K u (.type T) HH /\ HH s.heap /\ u ≠ .builtin "__main__.__loader__#opaque" /\ T ∈ ["NoneType", "bool", "int", "str", "tuple", "list", "dict"] := by
 cases d with
 | non => cases hT; rw [q2V.mp r] at rv; cases rv; exact ⟨_, PySem.W.kitx_none, True.intro, (λ z => nomatch z), by simp⟩
 | bl b => cases hT; rw [q3x.mp r] at rv; cases rv; exact ⟨_, PySem.W.kitx_bool, True.intro, (λ z => nomatch z), by simp⟩
 | int b => cases hT; rw [q0I.mp r] at rv; obtain ⟨tk, rfl⟩ := rv; exact ⟨_, PySem.W.kitx_int, True.intro, (λ z => nomatch z), by simp⟩
 | str b => cases hT; rw [(q2q.mp r).1] at rv; obtain ⟨tk, rfl⟩ := rv; exact ⟨_, PySem.W.kitx_str, True.intro, (λ z => nomatch z), by simp⟩
 | tup ds =>
  cases hT
  obtain ⟨a, xs, e1, e2, e3⟩ := q0T.mp r
  rw [e1] at rv; cases rv
  obtain ⟨its, _, ⟨o, h1, h2, _⟩, _⟩ := I.tuple e2
  exact ⟨_, PySem.W.kitx_tuple, ⟨o, h1, h2⟩, (λ z => nomatch z), by simp⟩
 | lst ds =>
  cases hT
  obtain ⟨a, xs, e1, e2, e3⟩ := q0H.mp r
  rw [e1] at rv; cases rv
  obtain ⟨_, its, n, _, _, h1⟩ := I.lstM e2
  exact ⟨_, PySem.W.kitx_list, ⟨_, h1, rfl⟩, (λ z => nomatch z), by simp⟩
 | dct ks vs =>
  cases hT
  obtain ⟨a, kvs, e1, e2⟩ := q5n.mp r
  rw [e1] at rv; cases rv
  obtain ⟨_, _, _, _, ⟨o, _, _, h1, h2, _⟩⟩ := (show q1K X.prog X.w H s.heap a (.dK kvs) from I.hok a _ e2)
  exact ⟨_, PySem.W.kitx_dict, ⟨o, h1, h2.1⟩, (λ z => nomatch z), by simp⟩
 | exc _ => cases hT
 | fn _ => cases hT
 | scr _ => cases hT
noncomputable def z4S (X : Cx) : List V -> Hp -> VK -> Prop := λ xs H Q => ∃ d T t1 t2 x q, xs = [x, .ref q] /\ Rep X.D H d x /\ tyS d = some T /\ t1 ∈ ["int", "bool", "str", "list", "tuple", "dict"] /\ t2 ∈ ["int", "bool", "str", "list", "tuple", "dict"] /\ H q = some (.tup [.ty t1, .ty t2]) /\ Q (.bl (tyIs T t1 || tyIs T t2)) H
theorem q8O : q1L X (.builtin "isinstance") (z4S X) := by
 intro pins s σ H xs us Q I r h
 obtain ⟨d, T, t1, t2, x, q, rfl, r1, hT, h1, h2, hq, k⟩ := h
 obtain ⟨u, w', rfl, ru, rw'⟩ := q6e r
 cases rw'
 obtain ⟨HH, Z, z1, z2, z3⟩ := z2L I r1 ru hT
 obtain ⟨its, ri, ⟨⟨oc, od, oda, osl⟩, o1, o2, n, o3⟩, _⟩ := I.tuple (SqT.of hq)
 obtain ⟨u1, u2, e, v1, v2⟩ := q6e ri
 have o2' : oc = .type "tuple" := o2
 have o3' : oda = .seq its.toArray n := o3
 subst o2' o3'
 cases v1; cases v2
 subst e
 exact PySem.W.kia_tup Z I.kIn z1 o1 (z2b z3 h1 h2) z2 λ tk => ⟨.bl _, H, I.tok tk, rfl, k⟩
theorem q9B {x1 x2 : Str} {t1 t2 : String} {p1 p2 tp : Pos} {kk : Nat} {kf : DV -> Option Bool} (h1 : q3D x1 = some t1) (h2 : q3D x2 = some t2) (hg : Gl X "isinstance") (hm : X.mg "isinstance" = none)
  (g1 : Gl X x1) (m1 : X.mg x1 = none) (n1 : x1 ≠ "__name__") (d1 : (x1 == ("__debug__" : Str)) = false) (g2 : Gl X x2) (m2 : X.mg x2 = none) (n2 : x2 ≠ "__name__") (d2 : (x2 == ("__debug__" : Str)) = false)
  (hkf : ∀ d k, kf d = some k -> ∃ T, tyS d = some T /\ k = ((tyOf d).contains x1 || (tyOf d).contains x2))
  (ha : ∀ q, ra = some q -> PE X e (dE X.D E δ q)) (hs : q0x e = false) (h : (Re.thn ra λ y _ => (kf y).map λ k => .ok (.bl k) .strong) = some re) :
  PE X (.Call (.Name "isinstance" p) [e, .Tuple [.Name x1 p1, .Name x2 p2] kk tp] [] pos) (dE X.D E δ re) := by
 obtain ⟨b1, b2, b3⟩ := q5m h1
 obtain ⟨c1, c2, c3⟩ := q5m h2
 have T1 : PE X (.Name x1 p1) (tC (.ty t1)) := q4Y g1 m1 b1 rfl n1 d1
 have T2 : PE X (.Name x2 p2) (tC (.ty t2)) := q4Y g2 m2 c1 rfl n2 d2
 have TT := q7t (pos := tp) (x1 := kk) (q0N T1 (q0N T2 q2C))
 have C := λ ta (hA : PE X e ta) => q3Q (p := p) (pos := pos) q8O hg hm boot_isinstance (q0N hA (q0N TT q2C) (q0j hs)) (by decide) (by decide) (q0j hs)
 cases hra : ra with
 | none => rw [hra] at h; cases h
 | some q =>
  rw [hra] at h
  have A := ha q hra
  cases q with
  | ex c => cases h; exact (C _ A).weak λ σ H Q ⟨O, W, R, p⟩ => ⟨O, W, R, p⟩
  | ok d cl =>
   obtain ⟨k, e1, e2⟩ := Option.map_eq_some_iff.mp (show ((kf d).map λ k => Re.ok (.bl k) .strong) = some re from h)
   cases e2
   obtain ⟨T, hT, hk⟩ := hkf d k e1
   have ek : k = (tyIs T t1 || tyIs T t2) := by rw [hk, q7w h1 hT, q7w h2 hT]; rfl
   exact (C _ A).weak λ σ H Q ⟨O, W, R, p⟩ => ⟨O, W, R, λ v H1 s1 g1 => ⟨show (2 : Nat) <= sizeLine by decide, λ q hq => ⟨d, T, t1, t2, v, q, rfl, (g1.all (R.hid.mono s1)).mono (q0w hq), hT, b2, c2, q0Q, by rw [← ek]; exact p _ _ (s1.trans (q0w hq)) q3i⟩⟩⟩
end
end L2
end
section
namespace L2
open PySem PySem.Spec PyProof.Rows
section
variable {X : Cx} {E : St -> XK} {δ : List Sv} {v : Expr} {te : TE} {pos kpos : Pos} {i : Int} {j : Nat}
theorem Inv.notSys {pins : List (Addr × Obj)} {σ : St} {H : Hp} {s : Shared} (I : Inv X pins σ H s) {a : Addr} (h : s.heap.objs.size <= a) : (a == sysModules) = false := by
 have h1 : mainGlobals < X.base.objs.size := I.mod.glob.lt
 have h2 := Nat.le_trans I.ok.bsz I.sz
 have : (1 : Nat) < a := Nat.lt_of_lt_of_le (Nat.lt_of_le_of_lt (by decide : (1 : Nat) <= mainGlobals) h1) (Nat.le_trans h2 h)
 exact beq_eq_false_iff_ne.mpr (Nat.ne_of_gt this)
theorem z1X : PE X (.Dict [] [] pos) (λ σ H Q => ∀ a, H a = none -> Q (.ref a) (upd H a (.dK []))) := λ pins s σ H Q I h =>
 wpAny_Dict_empty ⟨.ref s.heap.objs.size, _, I.laid (a := s.heap.objs.size) (o := .dK []) (t' := s.toks) (λ _ _ q => Heap.get?_push_of_some _ q) (Nat.le_refl _) ⟨Nat.zero_le _, I.notSys (Nat.le_refl _), [], .nil, Heap.DictOf.new _⟩, rfl, h _ (I.hok.fresh (Nat.le_refl _))⟩
theorem z1Q : PE X (.Dict [] [] pos) (dE X.D E δ (.ok (.dct [] []) .strong)) :=
 z1X.weak λ σ H Q ⟨O, W, R, p⟩ a ha => p _ _ (q0w ha) (q5n.mpr ⟨a, _, rfl, by rw [q0t λ z => R.hid.ot a z ha]; exact q0Q⟩ : Rep X.D (L2.wo (O ++ W) _) (.dct [] []) _)
end
end L2
end
section
namespace L2
open PySem PySem.Spec PyProof.Rows
structure Wk (D : Dm) (J : It) (ds : List DV) (Oc Oi : List Addr) (H1 : Hp) : Prop where
 go : ∀ i H, Same (L2.wo Oc H1) (L2.wo Oc H) -> i < ds.length -> J.go i H
 same : ∀ i H x H', J.yld i H x H' -> Same H H'
 yld : ∀ i H x H' d O2, Same (L2.wo Oc H1) (L2.wo Oc H) -> Same (L2.wo Oi H1) (L2.wo Oi H) -> J.yld i H x H' -> ds[i]? = some d -> (∀ a ∈ O2, H a ≠ none /\ (a ∈ Oi \/ H1 a = none)) -> Rep D (L2.wo O2 H') d x
 stop : ∀ H, Same (L2.wo Oc H1) (L2.wo Oc H) -> J.stop ds.length H
noncomputable def hidW (O W : List Addr) : Cl -> List Addr
 | .top => O
 | .weak => O
 | _ => O ++ W
noncomputable def z4U (D : Dm) (E : St -> XK) (σ : St) (O W : List Addr) (H : Hp) (R : It -> Hp -> Prop) : Ri -> Prop
 | .ok ds c => ∀ J H', Same H H' -> Wk D J ds (hidW O W c) (q1G O W c) H' -> R J H'
 | .ex c => ∀ H' C, D.mg c = some C -> Same H H' -> E σ C none H'
noncomputable def dI (D : Dm) (E : St -> XK) (δ : List Sv) (r : Ri) : TI := λ σ H R => ∃ O W, RSt D H σ δ O W /\ z4U D E σ O W H R r
theorem PI.weak {X : Cx} {tg iter : Expr} {t t' : TI} (h : PI X tg iter t) (k : ∀ σ H R, t' σ H R -> t σ H R) : PI X tg iter t' := λ pins s σ H R I q => h pins s σ H R I (k σ H R q)
theorem z0h {O O2 : List Addr} {H1 H : Hp} (s : Same (L2.wo O H1) (L2.wo O H)) (h : ∀ a ∈ O2, H a ≠ none /\ (a ∈ O \/ H1 a = none)) : Same (L2.wo O H1) (L2.wo O2 H) := λ b o e => by
 have q := s b o e
 obtain ⟨hb, e⟩ := q0W e
 obtain ⟨_, q⟩ := q0W q
 rw [q0t λ z => ?_]
 ·exact q
 ·rcases (h b z).2 with w | w
  ·exact hb w
  ·rw [w] at e; cases e
theorem Wk.list {D : Dm} {ds : List DV} {Oc Oi : List Addr} {H1 : Hp} {a : Addr} {xs : List V} (h : SqL D.K (L2.wo Oc H1) a xs) (r : RepL D (L2.wo Oi H1) ds xs) : Wk D (Itl D.K a) ds Oc Oi H1 where
 go := λ i H s hi => ⟨xs, xs[i]'(by rw [r.length]; exact hi), q1y.seq (s.seq h), List.getElem?_eq_getElem _⟩
 same := λ i H x H' y => by rw [y.1]; exact Same.refl _
 yld := λ i H x H' d O2 s s' y e ho => by
  obtain ⟨e1, y⟩ := y
  subst e1
  obtain ⟨v, q1, q2⟩ := r.get e
  have := y xs (q1y.seq (s.seq h))
  rw [q1] at this; cases this
  exact q2.mono (z0h s' ho)
 stop := λ H s => ⟨xs, q1y.seq (s.seq h), by rw [r.length]; exact Nat.le_refl _⟩
theorem Wk.tup {D : Dm} {ds : List DV} {Oc Oi : List Addr} {H1 : Hp} {a : Addr} {xs : List V} (h : SqT D.K (L2.wo Oc H1) a xs) (r : RepL D (L2.wo Oi H1) ds xs) : Wk D (Itt D.K a) ds Oc Oi H1 where
 go := λ i H s hi => ⟨xs, xs[i]'(by rw [r.length]; exact hi), q1y.tseq (s.tseq h), List.getElem?_eq_getElem _⟩
 same := λ i H x H' y => by rw [y.1]; exact Same.refl _
 yld := λ i H x H' d O2 s s' y e ho => by
  obtain ⟨e1, y⟩ := y
  subst e1
  obtain ⟨v, q1, q2⟩ := r.get e
  have := y xs (q1y.tseq (s.tseq h))
  rw [q1] at this; cases this
  exact q2.mono (z0h s' ho)
 stop := λ H s => ⟨xs, q1y.tseq (s.tseq h), by rw [r.length]; exact Nat.le_refl _⟩
theorem q2U (lo : Int) (n : Nat) : (upTo lo n).length = n := by unfold upTo; rw [List.length_map, List.length_range]
theorem q8Y {lo : Int} {n i : Nat} {d : DV} (h : (upTo lo n)[i]? = some d) : i < n /\ d = .int (lo + i) := by
 have hl : i < n := by have := (List.getElem?_eq_some_iff.mp h).1; rw [q2U] at this; exact this
 unfold upTo at h
 rw [List.getElem?_map, List.getElem?_range hl] at h
 cases h
 exact ⟨hl, rfl⟩
theorem Wk.range {D : Dm} {Oc Oi : List Addr} {H1 : Hp} (lo : Int) (n : Nat) : Wk D (Itr lo n) (upTo lo n) Oc Oi H1 where
 go := λ i H s hi => by rw [q2U] at hi; exact hi
 same := λ i H x H' y => by rw [y.1]; exact Same.refl _
 yld := λ i H x H' d O2 s s' y e ho => by
  obtain ⟨e1, y⟩ := y
  subst e1
  obtain ⟨_, e2⟩ := q8Y e
  subst e2
  exact q0I.mpr y
 stop := λ H s => by rw [q2U]; exact Nat.le_refl _
theorem q2m (hi : Int) (n : Nat) : (q4w hi n).length = n := by unfold q4w; rw [List.length_map, List.length_range]
theorem q6R {hi : Int} {n i : Nat} {d : DV} (h : (q4w hi n)[i]? = some d) : i < n /\ d = .int (hi - i) := by
 have hl : i < n := by have := (List.getElem?_eq_some_iff.mp h).1; rw [q2m] at this; exact this
 unfold q4w at h
 rw [List.getElem?_map, List.getElem?_range hl] at h
 cases h
 exact ⟨hl, rfl⟩
theorem Wk.down {D : Dm} {Oc Oi : List Addr} {H1 : Hp} (hi : Int) (n : Nat) : Wk D (Itd hi n) (q4w hi n) Oc Oi H1 where
 go := λ i H s h => by rw [q2m] at h; exact h
 same := λ i H x H' y => by rw [y.1]; exact Same.refl _
 yld := λ i H x H' d O2 s s' y e ho => by
  obtain ⟨e1, y⟩ := y
  subst e1
  obtain ⟨_, e2⟩ := q6R e
  subst e2
  exact q0I.mpr y
 stop := λ H s => by rw [q2m]; exact Nat.le_refl _
section
variable {X : Cx} {E : St -> XK} {δ : List Sv} {tg e e' : Expr} {es : List Expr} {pos p : Pos} {ra rb : Option Re} {rs : Option Rs} {ri : Ri}
theorem Got.walkL {D : Dm} {O W : List Addr} {H0 H : Hp} {ds : List DV} {c : Cl} {v : V} (g : Got D O W H0 H (.lst ds) c v) (hd : Hid O W H0 H) : ∃ a xs, v = .ref a /\ SqL D.K (L2.wo (hidW O W c) H) a xs /\ RepL D (L2.wo (q1G O W c) H) ds xs := by
 cases c with
 | weak => obtain ⟨a, xs, e1, e2, e3⟩ := q0H.mp g; exact ⟨a, xs, e1, SqL.of e2, e3⟩
 | top => obtain ⟨a, xs, e1, e0, e2, e3⟩ := g; exact ⟨a, xs, e1, SqL.of e2, e3⟩
 | strong => obtain ⟨a, xs, e1, e2, e3⟩ := q0H.mp g; exact ⟨a, xs, e1, SqL.of e2, e3⟩
 | fresh => obtain ⟨a, xs, e1, e2, e3⟩ := q0H.mp (g.strong hd); exact ⟨a, xs, e1, SqL.of e2, e3⟩
 | ft => obtain ⟨a, xs, e1, e2, e3⟩ := q0H.mp (g.ft hd); exact ⟨a, xs, e1, SqL.of e2, e3⟩
theorem Got.walkT {D : Dm} {O W : List Addr} {H0 H : Hp} {ds : List DV} {c : Cl} {v : V} (g : Got D O W H0 H (.tup ds) c v) (hd : Hid O W H0 H) : ∃ a xs, v = .ref a /\ SqT D.K (L2.wo (hidW O W c) H) a xs /\ RepL D (L2.wo (q1G O W c) H) ds xs := by
 cases c with
 | weak => exact q0T.mp g
 | top =>
  obtain ⟨a, xs, e1, e2, e3⟩ := q0T.mp (show Rep D (L2.wo (O ++ W) H) (.tup ds) v from g)
  exact ⟨a, xs, e1, (q0U q4U).tseq e2, e3⟩
 | strong => exact q0T.mp g
 | fresh => obtain ⟨_, _, _, _, q, _⟩ := g; cases q
 | ft => exact q0T.mp (g.ft hd)
theorem Got.walkS {D : Dm} {O W : List Addr} {H0 H : Hp} {ns : List Int} {c : Cl} {v : V} (g : Got D O W H0 H (.scr ns) c v) (hd : Hid O W H0 H) : ∃ a, v = .ref a /\ SqL D.K (L2.wo (hidW O W c) H) a (ns.map V.int) := by
 cases c with
 | weak => obtain ⟨a, e1, e2⟩ := q1S.mp g; exact ⟨a, e1, e2.sq⟩
 | top => obtain ⟨a, e1, e2⟩ := q1S.mp (show Rep D (L2.wo (O ++ W) H) (.scr ns) v from g); exact ⟨a, e1, (q0U q4U).seq e2.sq⟩
 | strong => obtain ⟨a, e1, e2⟩ := q1S.mp g; exact ⟨a, e1, e2.sq⟩
 | fresh => obtain ⟨_, _, _, _, q, _⟩ := g; cases q
 | ft => obtain ⟨a, e1, e2⟩ := q1S.mp (g.ft hd); exact ⟨a, e1, e2.sq⟩
theorem q6G (ha : ∀ q, ra = some q -> PE X e (dE X.D E δ q)) (h : q1U ra = some ri) : PI X tg e (dI X.D E δ ri) := by
 cases hra : ra with
 | none => rw [hra] at h; cases h
 | some q =>
  rw [hra] at h
  have A := ha q hra
  cases q with
  | ex c => cases h; exact (q6b A).weak λ σ H R' ⟨O, W, R, p⟩ => ⟨O, W, R, p⟩
  | ok d c =>
   obtain ⟨ds, e1, e2⟩ := Option.map_eq_some_iff.mp (show ((seqD d).map λ ds => Ri.ok ds c) = some ri from h)
   cases e2
   unfold seqD at e1
   split at e1
   ·cases e1
    exact (q6b A).weak λ σ H R' ⟨O, W, R, p⟩ => ⟨O, W, R, λ v H1 s1 g1 => by
     obtain ⟨a, e1, e2⟩ := g1.walkS (R.hid.mono s1)
     exact ⟨a, e1, ⟨_, q1y.seq e2⟩, p _ H1 s1 (.list e2 (q2H _))⟩⟩
   ·cases e1
    exact (q6b A).weak λ σ H R' ⟨O, W, R, p⟩ => ⟨O, W, R, λ v H1 s1 g1 => by
     obtain ⟨a, xs, e1, e2, e3⟩ := g1.walkL (R.hid.mono s1)
     exact ⟨a, e1, ⟨xs, q1y.seq e2⟩, p _ H1 s1 (.list e2 e3)⟩⟩
   ·cases e1
    exact (z3b A).weak λ σ H R' ⟨O, W, R, p⟩ => ⟨O, W, R, λ v H1 s1 g1 => by
     obtain ⟨a, xs, e1, e2, e3⟩ := g1.walkT (R.hid.mono s1)
     exact ⟨a, e1, ⟨xs, q1y.tseq e2⟩, p _ H1 s1 (.tup e2 e3)⟩⟩
   ·cases e1
theorem q2a {i : Int} (h : q1t i = true) : -(2 ^ 62) <= i /\ i < 2 ^ 62 := by
 unfold q1t at h
 simpa [Bool.and_eq_true] using h
theorem q5b {o : Option (List DV)} {ri : Ri} (h : q1U (o.map λ ds => Re.ok (.lst ds) .fresh) = some ri) : ∃ ds, o = some ds /\ ri = .ok ds .fresh := by
 cases o with
 | none => cases h
 | some ds => cases h; exact ⟨ds, rfl, rfl⟩
theorem q6T (hg : Gl X "range") (hm : X.mg "range" = none) (ha : ∀ q, rs = some q -> PA X [e] (dA X.D E δ q)) (hs : q0x e = false) (h : q1U (Rs.thn rs λ l => (rngD l).map λ ds => Re.ok (.lst ds) .fresh) = some ri) (hl : ∀ l, rs = some (.ok l) -> l.length = 1) :
  PI X tg (.Call (.Name "range" p) [e] [] pos) (dI X.D E δ ri) := by
 have C := λ t (hA : PA X [e] t) => q8L (tg := tg) (p := p) (pos := pos) hg hm hA (q0j hs)
 cases hrs : rs with
 | none => rw [hrs] at h; cases h
 | some q =>
  rw [hrs] at h
  have A := ha q hrs
  cases q with
  | ex c => cases h; exact (C _ A).weak λ σ H R' ⟨O, W, R, p⟩ => ⟨O, W, R, p⟩
  | ok l =>
   have l1 := hl l hrs
   obtain ⟨ds, e1, e2⟩ := q5b (show q1U ((rngD l).map λ ds => Re.ok (.lst ds) .fresh) = some ri from h)
   cases e2
   unfold rngD at e1
   split at e1
   ·rename_i j c
    split at e1
    ·rename_i m
     cases e1
     rw [Bool.and_eq_true] at m
     have q := q2a m.1
     exact (C _ A).weak λ σ H R' ⟨O, W, R, p⟩ => ⟨O, W, R, λ vs H1 s1 g1 => by
      obtain ⟨v, rfl, gv⟩ := g1.one
      exact ⟨j, by rw [gv.int (R.hid.mono s1)], q.1, q.2, p _ H1 s1 (.range _ _)⟩⟩
    ·cases e1
   ·cases l1
   ·cases l1
   ·cases e1
theorem q6Q (hg : Gl X "range") (hm : X.mg "range" = none) (ha : ∀ q, rs = some q -> PA X [e, e'] (dA X.D E δ q)) (hs : q0x e = false) (hs' : q0x e' = false) (h : q1U (Rs.thn rs λ l => (rngD l).map λ ds => Re.ok (.lst ds) .fresh) = some ri) (hl : ∀ l, rs = some (.ok l) -> l.length = 2) :
  PI X tg (.Call (.Name "range" p) [e, e'] [] pos) (dI X.D E δ ri) := by
 have C := λ t (hA : PA X [e, e'] t) => q8t (tg := tg) (p := p) (pos := pos) hg hm hA (by rw [q0j hs, q0j hs']; rfl) (q0j hs')
 cases hrs : rs with
 | none => rw [hrs] at h; cases h
 | some q =>
  rw [hrs] at h
  have A := ha q hrs
  cases q with
  | ex c => cases h; exact (C _ A).weak λ σ H R' ⟨O, W, R, p⟩ => ⟨O, W, R, p⟩
  | ok l =>
   have l1 := hl l hrs
   obtain ⟨ds, e1, e2⟩ := q5b (show q1U ((rngD l).map λ ds => Re.ok (.lst ds) .fresh) = some ri from h)
   cases e2
   unfold rngD at e1
   split at e1
   ·cases l1
   ·rename_i i c j c'
    split at e1
    ·rename_i m
     cases e1
     rw [Bool.and_eq_true, Bool.and_eq_true] at m
     have q := q2a m.1.1
     have q' := q2a m.1.2
     exact (C _ A).weak λ σ H R' ⟨O, W, R, p⟩ => ⟨O, W, R, λ vs H1 s1 g1 => by
      obtain ⟨v, v', rfl, gv, gv'⟩ := g1.two
      exact ⟨i, j, by rw [gv.int (R.hid.mono s1), gv'.int (R.hid.mono s1)], ⟨q.1, q.2, q'.1, q'.2⟩, p _ H1 s1 (.range _ _)⟩⟩
    ·cases e1
   ·cases l1
   ·cases e1
theorem q7i {e'' : Expr} (hg : Gl X "range") (hm : X.mg "range" = none) (ha : ∀ q, rs = some q -> PA X [e, e', e''] (dA X.D E δ q)) (hs : q0x e = false) (hs' : q0x e' = false) (hs'' : q0x e'' = false) (h : q1U (Rs.thn rs λ l => (rngD l).map λ ds => Re.ok (.lst ds) .fresh) = some ri) (hl : ∀ l, rs = some (.ok l) -> l.length = 3) :
  PI X tg (.Call (.Name "range" p) [e, e', e''] [] pos) (dI X.D E δ ri) := by
 have C := λ t (hA : PA X [e, e', e''] t) => q7K (tg := tg) (p := p) (pos := pos) hg hm hA (by rw [q0j hs, q0j hs', q0j hs'']; rfl) (by rw [q0j hs', q0j hs'']; rfl)
 cases hrs : rs with
 | none => rw [hrs] at h; cases h
 | some q =>
  rw [hrs] at h
  have A := ha q hrs
  cases q with
  | ex c => cases h; exact (C _ A).weak λ σ H R' ⟨O, W, R, p⟩ => ⟨O, W, R, p⟩
  | ok l =>
   have l1 := hl l hrs
   obtain ⟨ds, e1, e2⟩ := q5b (show q1U ((rngD l).map λ ds => Re.ok (.lst ds) .fresh) = some ri from h)
   cases e2
   unfold rngD at e1
   split at e1
   ·cases l1
   ·cases l1
   ·rename_i i c j c' k c''
    split at e1
    ·rename_i m
     cases e1
     rw [Bool.and_eq_true, Bool.and_eq_true, Bool.and_eq_true, decide_eq_true_eq, decide_eq_true_eq] at m
     have q := q2a m.1.1.1
     have q' := q2a m.1.1.2
     have k1 := m.2
     subst k1
     exact (C _ A).weak λ σ H R' ⟨O, W, R, p⟩ => ⟨O, W, R, λ vs H1 s1 g1 => by
      obtain ⟨v, v', v'', rfl, gv, gv', gv''⟩ := g1.three
      exact ⟨i, j, by rw [gv.int (R.hid.mono s1), gv'.int (R.hid.mono s1), gv''.int (R.hid.mono s1)], ⟨q.1, q.2, q'.1, q'.2⟩, p _ H1 s1 (.down _ _)⟩⟩
    ·cases e1
   ·cases e1
end
noncomputable def q4D : List Nat -> TGs
 | [] => gNil
 | i :: is => z2h (q7k i) (q4D is)
noncomputable def gT (K : PySem.W.Frag) : Tg -> TG
 | .one i => q7k i
 | .many is => gTup K is.length (q4D is)
theorem RSt.setVal {D : Dm} {H : Hp} {σ : St} {δ : List Sv} {O W : List Addr} {v : V} {d : DV} (R : RSt D H σ δ O W) (r : Rep D (L2.wo (O ++ W) H) d v) (i : Nat) : RSt D H (σ.set i (some v)) (δ.set i (.val d)) O W where
 val := λ j d' h => by
  by_cases hj : j = i
  ·subst hj
   have hl : j < δ.length := by
    have := (List.getElem?_eq_some_iff.mp h).1
    rw [List.length_set] at this; exact this
   rw [List.getElem?_set_self hl] at h
   cases h
   exact ⟨v, List.getElem?_set_self (by rw [R.len]; exact hl), r⟩
  ·rw [List.getElem?_set_ne (Ne.symm hj)] at h ⊢
   exact R.val j d' h
 own := λ j ds' h => by
  by_cases hj : j = i
  ·subst hj
   have hl : j < δ.length := by
    have := (List.getElem?_eq_some_iff.mp h).1
    rw [List.length_set] at this; exact this
   rw [List.getElem?_set_self hl] at h
   cases h
  ·rw [List.getElem?_set_ne (Ne.symm hj)] at h ⊢
   exact R.own j ds' h
 inj := λ j k a d1 d2 h1 h2 e1 e2 => by
  have ne : ∀ {j : Nat} {d1 : DV}, (δ.set i (.val d))[j]? = some (.own d1) -> j ≠ i := λ {j d1} h1 z => by
   subst z
   have hl : j < δ.length := by
    have := (List.getElem?_eq_some_iff.mp h1).1
    rw [List.length_set] at this; exact this
   rw [List.getElem?_set_self hl] at h1
   cases h1
  have n1 := ne h1
  have n2 := ne h2
  rw [List.getElem?_set_ne (Ne.symm n1)] at h1 e1
  rw [List.getElem?_set_ne (Ne.symm n2)] at h2 e2
  exact R.inj j k a d1 d2 h1 h2 e1 e2
 ot := λ j d' h => by
  have ne : ∀ {j : Nat} {s : Sv}, (∀ d, s ≠ .val d) -> (δ.set i (.val d))[j]? = some s -> j ≠ i := λ {j s} hs h1 z => by
   subst z
   have hl : j < δ.length := by
    have := (List.getElem?_eq_some_iff.mp h1).1
    rw [List.length_set] at this; exact this
   rw [List.getElem?_set_self hl] at h1
   cases h1
   exact hs _ rfl
  have nj := ne (by intro d z; cases z) h
  rw [List.getElem?_set_ne (Ne.symm nj)] at h ⊢
  obtain ⟨⟨t, ts, p, xs, ds, es, e0, e1, e2, e3, e4, e5, e6, e7⟩, u⟩ := R.ot j d' h
  refine ⟨⟨t, ts, p, xs, ds, es, e0, e1, e2, e3, e4, e5, e6, λ k d2 q => ?_⟩, λ k d2 q => ?_⟩
  ·have nk := ne (by intro d z; cases z) q
   rw [List.getElem?_set_ne (Ne.symm nk)] at q ⊢
   exact e7 k d2 q
  ·have nk := ne (by intro d z; cases z) q
   rw [List.getElem?_set_ne (Ne.symm nk)] at q
   exact u k d2 q
 o2 := λ j d' h => by
  have ne : ∀ {j : Nat} {s : Sv}, (∀ d, s ≠ .val d) -> (δ.set i (.val d))[j]? = some s -> j ≠ i := λ {j s} hs h1 z => by
   subst z
   have hl : j < δ.length := by
    have := (List.getElem?_eq_some_iff.mp h1).1
    rw [List.length_set] at this; exact this
   rw [List.getElem?_set_self hl] at h1
   cases h1
   exact hs _ rfl
  have nj := ne (by intro d z; cases z) h
  rw [List.getElem?_set_ne (Ne.symm nj)] at h ⊢
  obtain ⟨⟨p, L, e0, e1, e2, e3⟩, u, n⟩ := R.o2 j d' h
  refine ⟨⟨p, L, e0, e1, e2, λ k d2 a q q2 => ?_⟩, λ k d2 q => ?_, λ k d2 q => ?_⟩
  ·have nk := ne (by intro d z; cases z) q
   rw [List.getElem?_set_ne (Ne.symm nk)] at q q2
   exact e3 k d2 a q q2
  ·have nk := ne (by intro d z; cases z) q
   rw [List.getElem?_set_ne (Ne.symm nk)] at q
   exact u k d2 q
  ·have nk := ne (by intro d z; cases z) q
   rw [List.getElem?_set_ne (Ne.symm nk)] at q
   exact n k d2 q
 len := by rw [List.length_set, List.length_set]; exact R.len
 hid := R.hid
theorem q4p {D : Dm} {H : Hp} {O W : List Addr} {Q : St -> Hp -> Prop} : ∀ {is : List Nat} {ds : List DV} {xs : List V} {σ : St} {δ δ' : List Sv}, RSt D H σ δ O W -> RepL D (L2.wo (O ++ W) H) ds xs -> q2Q δ is ds = some δ' -> (∀ σ', RSt D H σ' δ' O W -> Q σ' H) -> q4D is xs σ H Q
 | [], [], xs, σ, δ, δ', R, r, h, q => by cases h; exact ⟨q0C.mp r, q σ R⟩
 | i :: is, d :: ds, xs, σ, δ, δ', R, r, h, q => by
  obtain ⟨v, vs, e1, e2, e3⟩ := q0h.mp r
  exact ⟨v, vs, e1, q4p (R.setVal e2 i) e3 h q⟩
 | [], _ :: _, _, _, _, _, _, _, h, _ => by cases h
 | _ :: _, [], _, _, _, _, _, _, h, _ => by cases h
theorem q1B : ∀ {is : List Nat} {ds : List DV} {δ δ' : List Sv}, q2Q δ is ds = some δ' -> is.length = ds.length /\ δ'.length = δ.length
 | [], [], _, _, h => by cases h; exact ⟨rfl, rfl⟩
 | i :: is, d :: ds, δ, δ', h => by
  obtain ⟨a, b⟩ := q1B (is := is) h
  exact ⟨by rw [List.length_cons, List.length_cons, a], by rw [b, List.length_set]⟩
 | [], _ :: _, _, _, h => by cases h
 | _ :: _, [], _, _, h => by cases h
theorem q6h {D : Dm} {H : Hp} {O W : List Addr} {Q : St -> Hp -> Prop} {tg : Tg} {d : DV} {x : V} {σ : St} {δ δ' : List Sv} (R : RSt D H σ δ O W) (r : Rep D (L2.wo (O ++ W) H) d x) (h : tg.bind d δ = some δ') (q : ∀ σ', RSt D H σ' δ' O W -> Q σ' H) : gT D.K tg x σ H Q := by
 cases tg with
 | one i => cases h; exact q _ (R.setVal r i)
 | many is =>
  unfold Tg.bind at h
  dsimp only at h
  split at h
  ·rename_i ds
   obtain ⟨a, xs, e1, e2, e3⟩ := q0T.mp r
   exact ⟨a, xs, e1, q1y.tseq e2, by rw [e3.length, (q1B h).1], q4p R e3 h q⟩
  ·cases h
theorem RSt.less {D : Dm} {H : Hp} {σ : St} {δ δ' : List Sv} {O W : List Addr} (R : RSt D H σ δ' O W) (hl : δ.length = δ'.length) (h : ∀ (i : Nat) sv, δ[i]? = some sv -> sv = .no \/ δ'[i]? = some sv) : RSt D H σ δ O W where
 val := λ i d e => by
  rcases h i _ e with z | z
  ·cases z
  ·exact R.val i d z
 own := λ i d e => by
  rcases h i _ e with z | z
  ·cases z
  ·exact R.own i d z
 inj := λ i j a d d' e e' => by
  rcases h i _ e with z | z
  ·cases z
  ·rcases h j _ e' with y | y
   ·cases y
   ·exact R.inj i j a d d' z y
 ot := λ i d e => by
  rcases h i _ e with z | z
  ·cases z
  ·obtain ⟨⟨t, ts, p, xs, ds, es, e0, e1, e2, e3, e4, e5, e6, e7⟩, u⟩ := R.ot i d z
   refine ⟨⟨t, ts, p, xs, ds, es, e0, e1, e2, e3, e4, e5, e6, λ k d2 q => ?_⟩, λ k d2 q => ?_⟩
   ·rcases h k _ q with y | y
    ·cases y
    ·exact e7 k d2 y
   ·rcases h k _ q with y | y
    ·cases y
    ·exact u k d2 y
 o2 := λ i d e => by
  rcases h i _ e with z | z
  ·cases z
  ·obtain ⟨⟨p, L, e0, e1, e2, e3⟩, u, n⟩ := R.o2 i d z
   refine ⟨⟨p, L, e0, e1, e2, λ k d2 a q q2 => ?_⟩, λ k d2 q => ?_, λ k d2 q => ?_⟩
   ·rcases h k _ q with y | y
    ·cases y
    ·exact e3 k d2 a y q2
   ·rcases h k _ q with y | y
    ·cases y
    ·exact u k d2 y
   ·rcases h k _ q with y | y
    ·cases y
    ·exact n k d2 y
 len := by rw [hl]; exact R.len
 hid := R.hid
theorem q6q : ∀ {is : List Nat} {ds : List DV} {δ δ' : List Sv}, q2Q δ is ds = some δ' -> (∀ i ∈ is, δ[i]? = some .no \/ δ[i]? = none) -> ∀ (i : Nat) sv, δ[i]? = some sv -> sv = .no \/ δ'[i]? = some sv
 | [], [], _, _, h, _, i, sv, e => by cases h; exact .inr e
 | j :: is, d :: ds, δ, δ', h, hn, i, sv, e => by
  by_cases hij : i ∈ j :: is
  ·rcases hn i hij with z | z
   ·rw [z] at e; cases e; exact .inl rfl
   ·rw [z] at e; cases e
  ·have hne : j ≠ i := λ z => hij (by rw [z]; exact List.mem_cons_self)
   have hni : i ∉ is := λ z => hij (List.mem_cons_of_mem _ z)
   have key : ∀ {is : List Nat} {ds : List DV} {δ δ' : List Sv}, q2Q δ is ds = some δ' -> i ∉ is -> δ[i]? = some sv -> δ'[i]? = some sv := by
    intro is
    induction is with
    | nil => intro ds δ δ' h _ e; cases ds with
     | nil => cases h; exact e
     | cons _ _ => cases h
    | cons k is ih => intro ds δ δ' h hi e; cases ds with
     | nil => cases h
     | cons d ds =>
      refine ih h (λ z => hi (List.mem_cons_of_mem _ z)) ?_
      rw [List.getElem?_set_ne (λ z => hi (by rw [z]; exact List.mem_cons_self))]
      exact e
   exact .inr (key h hij e)
 | [], _ :: _, _, _, h, _, _, _, _ => by cases h
 | _ :: _, [], _, _, h, _, _, _, _ => by cases h
theorem q5u {tg : Tg} {d : DV} {δ δ' : List Sv} (h : tg.bind d δ = some δ') (hn : ∀ i ∈ q2W tg, δ[i]? = some .no \/ δ[i]? = none) : δ.length = δ'.length /\ ∀ (i : Nat) sv, δ[i]? = some sv -> sv = .no \/ δ'[i]? = some sv := by
 cases tg with
 | one j =>
  cases h
  refine ⟨(List.length_set ..).symm, λ i sv e => ?_⟩
  by_cases hij : i = j
  ·subst hij
   rcases hn i (by simp [q2W]) with z | z
   ·rw [z] at e; cases e; exact .inl rfl
   ·rw [z] at e; cases e
  ·exact .inr (by rw [List.getElem?_set_ne (Ne.symm hij)]; exact e)
 | many is =>
  unfold Tg.bind at h
  dsimp only at h
  split at h
  ·exact ⟨(q1B h).2.symm, q6q h hn⟩
  ·cases h
theorem RSt.inner {D : Dm} {H : Hp} {σ : St} {δ : List Sv} {O W : List Addr} (R : RSt D H σ δ O W) (fr : List (Option Nat)) (hnd : ∀ (j k i : Nat), fr[j]? = some (some i) -> fr[k]? = some (some i) -> j = k) : RSt D H (L2.inner fr σ) (q0X fr δ) O W := by
 have look : ∀ (j : Nat) sv, (q0X fr δ)[j]? = some sv -> sv ≠ .no -> ∃ i, fr[j]? = some (some i) /\ δ[i]? = some sv := λ j sv h hn => by
  unfold q0X at h
  rw [List.getElem?_map] at h
  cases q : fr[j]? with
  | none => rw [q] at h; cases h
  | some o =>
   rw [q] at h
   cases o with
   | none => cases h; exact absurd rfl hn
   | some i =>
    refine ⟨i, rfl, ?_⟩
    have h' : (δ.getD i .no).plain = sv := by simpa using h
    rw [List.getD_eq_getElem?_getD] at h'
    cases z : δ[i]? with
    | none => rw [z] at h'; exact absurd h'.symm hn
    | some sv' =>
     rw [z] at h'
     cases sv' with
     | ot d => exact absurd h'.symm hn
     | o2 d => exact absurd h'.symm hn
     | no => exact congrArg some h'
     | val d => exact congrArg some h'
     | own d => exact congrArg some h'
 have sig : ∀ (j i : Nat) (v : V), fr[j]? = some (some i) -> σ[i]? = some (some v) -> (L2.inner fr σ)[j]? = some (some v) := λ j i v q e => by
  unfold L2.inner
  rw [List.getElem?_map, q]
  simp [e]
 have noot : ∀ (j : Nat) d, (q0X fr δ)[j]? ≠ some (.ot d) := λ j d h => by
  unfold q0X at h
  rw [List.getElem?_map] at h
  cases q : fr[j]? with
  | none => rw [q] at h; cases h
  | some o =>
   rw [q] at h
   cases o with
   | none => cases h
   | some i =>
    have h' : (δ.getD i .no).plain = .ot d := by simpa using h
    cases z : δ.getD i .no with
    | ot d2 => rw [z] at h'; cases h'
    | o2 d2 => rw [z] at h'; cases h'
    | no => rw [z] at h'; cases h'
    | val d2 => rw [z] at h'; cases h'
    | own d2 => rw [z] at h'; cases h'
 have noo2 : ∀ (j : Nat) d, (q0X fr δ)[j]? ≠ some (.o2 d) := λ j d h => by
  unfold q0X at h
  rw [List.getElem?_map] at h
  cases q : fr[j]? with
  | none => rw [q] at h; cases h
  | some o =>
   rw [q] at h
   cases o with
   | none => cases h
   | some i =>
    have h' : (δ.getD i .no).plain = .o2 d := by simpa using h
    cases z : δ.getD i .no with
    | ot d2 => rw [z] at h'; cases h'
    | o2 d2 => rw [z] at h'; cases h'
    | no => rw [z] at h'; cases h'
    | val d2 => rw [z] at h'; cases h'
    | own d2 => rw [z] at h'; cases h'
 refine ⟨λ j d h => ?_, λ j d h => ?_, λ j k a d d' h1 h2 e1 e2 => ?_, λ j d h => absurd h (noot j d), λ j d h => absurd h (noo2 j d), ?_, R.hid⟩
 ·obtain ⟨i, q1, q2⟩ := look j _ h (by intro z; cases z)
  obtain ⟨v, e1, e2⟩ := R.val i d q2
  exact ⟨v, sig j i v q1 e1, e2⟩
 ·obtain ⟨i, q1, q2⟩ := look j _ h (by intro z; cases z)
  obtain ⟨a, xs, ds, e0, e1, e2⟩ := R.own i d q2
  exact ⟨a, xs, ds, e0, sig j i _ q1 e1, e2⟩
 ·obtain ⟨i, q1, q2⟩ := look j _ h1 (by intro z; cases z)
  obtain ⟨i', q1', q2'⟩ := look k _ h2 (by intro z; cases z)
  obtain ⟨b, xs, ds, _, z1, _⟩ := R.own i d q2
  obtain ⟨b', xs', ds', _, z1', _⟩ := R.own i' d' q2'
  have y := sig j i _ q1 z1
  have y' := sig k i' _ q1' z1'
  rw [e1] at y
  rw [e2] at y'
  cases y
  cases y'
  have := R.inj i i' a d d' q2 q2' z1 z1'
  subst this
  exact hnd j k i q1 q1'
 ·unfold L2.inner q0X; rw [List.length_map, List.length_map]
section
variable {X : Cx} {E : St -> XK} {δ : List Sv} {iter elt tgE : Expr} {ifs : List Expr} {pos : Pos} {N' : List Str} {scope : Scope} {fr : List (Option Nat)} {tg : Tg} {ri : Option Ri} {re : Re}
theorem q4V {D : Dm} {J : It} {ds : List DV} {O W : List Addr} {H H1 : Hp} {σ : St} {c : Cl} {g : DV -> Option Rc} {xs : List DV} {tc : TT} {te : TE} {δ0 : List Sv} {Q : VK} (w : Wk D J ds (hidW O W c) (q1G O W c) H1) (hd0 : Hid O W H H) (hc : c ≠ .weak) (R : RSt D H1 σ δ0 O W)
  (hn : ∀ i ∈ q2W tg, δ0[i]? = some .no \/ δ0[i]? = none) (hz : ds.length <= sizeLine) (hx : q1O g ds = some xs) (s1 : Same H H1)
  (step : ∀ d rc, d ∈ ds -> g d = some rc -> ∃ δ', tg.bind d δ0 = some δ' /\ ∀ σ' H2, Same H1 H2 -> RSt D H2 σ' δ' O W -> ∀ K : Bool -> Hp -> Prop, (rc = .skip -> ∀ H3, Same H2 H3 -> K false H3) -> (∀ x, rc = .item x -> ∀ H3, Same H2 H3 -> K true H3) -> tc σ' H2 K)
  (stepE : ∀ d x, d ∈ ds -> g d = some (.item x) -> ∀ δ', tg.bind d δ0 = some δ' -> ∀ σ' H2, Same H1 H2 -> RSt D H2 σ' δ' O W -> ∀ K : VK, (∀ v H3, Same H2 H3 -> Rep D (L2.wo (O ++ W) H3) x v -> K v H3) -> te σ' H2 K)
  (fin : ∀ v H', Same H H' -> Got D O W H H' (.lst xs) .fresh v -> Q v H') :
  z1o J (gT D.K tg) tc te (λ ys H' => ∀ p, H' p = none -> Q (.ref p) (upd H' p (.lst ys))) σ H1 := by
 have ci : q1G O W c = O ++ W := by cases c <;> first | rfl | exact absurd rfl hc
 rw [ci] at w
 refine ⟨λ i n ys σ' H' => n = ds.length - i /\ i <= ds.length /\ ys.length <= i /\ RSt D H' σ' δ0 O W /\ Same H1 H' /\ ∃ done rest, q1O g (ds.drop i) = some rest /\ done ++ rest = xs /\ RepL D (L2.wo (O ++ W) H') done ys,
  ⟨ds.length, rfl, Nat.zero_le _, Nat.zero_le _, R, Same.refl _, [], xs, hx, rfl, q0C.mpr rfl⟩, ?_⟩
 rintro i n ys σ2 H2 ⟨rfl, hi', hy, R2, s2, done, rest, h1, h2, r2⟩
 by_cases hlt : i < ds.length
 ·refine .inr ⟨w.go i H2 s2.wo hlt, Nat.lt_of_le_of_lt hy (Nat.lt_of_lt_of_le hlt hz), λ x' H3 y => ?_⟩
  have y1 := w.same i H2 x' H3 y
  have y3 : Rep D (L2.wo (O ++ W) H3) ds[i] x' := w.yld i H2 x' H3 _ (O ++ W) s2.wo s2.wo y (List.getElem?_eq_getElem hlt) λ a ha => ⟨R2.hid.ot a ha, .inl ha⟩
  rw [List.drop_eq_getElem_cons hlt] at h1
  have hm : ds[i] ∈ ds := List.getElem_mem hlt
  unfold q1O at h1
  split at h1
  ·cases h1
  ·rename_i q
   obtain ⟨δ', b1, b2⟩ := step _ _ hm q
   refine q6h (R2.mono y1) y3 b1 λ σ3 R3 => ?_
   have back := q5u b1 hn
   refine b2 σ3 H3 (s2.trans y1) R3 _ (λ _ H4 s4 => ?_) (λ x z => nomatch z)
   show if false = true then _ else _
   rw [if_neg Bool.false_ne_true]
   exact ⟨ds.length - (i + 1), by omega, rfl, hlt, Nat.le_succ_of_le hy, (R3.less back.1 back.2).mono s4, (s2.trans y1).trans s4, done, rest, h1, h2, r2.mono (y1.trans s4).wo⟩
  ·rename_i x q
   split at h1
   ·cases h1
   ·rename_i rest' q'
    cases h1
    obtain ⟨δ', b1, b2⟩ := step _ _ hm q
    refine q6h (R2.mono y1) y3 b1 λ σ3 R3 => ?_
    have back := q5u b1 hn
    refine b2 σ3 H3 (s2.trans y1) R3 _ (λ z => nomatch z) (λ x' z H4 s4 => ?_)
    cases z
    show if true = true then _ else _
    rw [if_pos rfl]
    refine stepE _ x hm q δ' b1 σ3 H4 ((s2.trans y1).trans s4) (R3.mono s4) _ λ v H5 s5 rv => ?_
    exact ⟨ds.length - (i + 1), by omega, rfl, hlt, by rw [List.length_append, List.length_singleton]; omega, (R3.less back.1 back.2).mono (s4.trans s5), ((s2.trans y1).trans s4).trans s5, done ++ [x], rest', q', by rw [List.append_assoc]; exact h2,
     (r2.mono ((y1.trans s4).trans s5).wo).append (RepL.one rv)⟩
 ·have e : i = ds.length := by omega
  subst e
  rw [List.drop_length] at h1
  cases h1
  rw [List.append_nil] at h2
  subst h2
  have s0 := s1.trans s2
  refine .inl ⟨w.stop H2 s2.wo, λ p hp => fin _ _ (s0.trans (q0w hp)) ?_⟩
  have hd : Hid O W H H2 := hd0.mono s0
  exact q2t hd hp r2
noncomputable abbrev E0s : St -> XK := λ _ _ _ _ => False
theorem PE.any {Y : Cx} {e : Expr} {ι : Sort _} {t : ι -> TE} (h : ∀ k, PE Y e (t k)) : PE Y e (λ σ H Q => ∃ k, t k σ H Q) := λ pins s σ H Q I ⟨k, q⟩ => h k pins s σ H Q I q
theorem PTs.any {Y : Cx} {ι : Sort _} {es : List Expr} {t : ι -> TT} (h : ∀ k, PTs Y es (t k)) : PTs Y es (λ σ H Q => ∃ k, t k σ H Q) := λ pins s σ H Q I ⟨k, q⟩ => h k pins s σ H Q I q
theorem Rc.of_item {r : Option Re} {x : DV} (h : Rc.of r = some (.item x)) : ∃ c, r = some (.ok x c) /\ stro x c = true := by
 unfold Rc.of at h
 split at h
 ·rename_i d c
  split at h
  ·rename_i m; cases h; exact ⟨c, rfl, m⟩
  ·cases h
 ·cases h
theorem Rc.of_skip {r : Option Re} (h : Rc.of r = some .skip) : False := by
 unfold Rc.of at h
 split at h
 ·split at h <;> cases h
 ·cases h
theorem q4n {fr : List (Option Nat)} {δ : List Sv} {i : Nat} (h : fr[i]? = some none) : (q0X fr δ)[i]? = some .no := by
 unfold q0X
 rw [List.getElem?_map, h]; rfl
noncomputable def q1x (X : Cx) (E : St -> XK) (δ : List Sv) (tgE iter : Expr) (ifs : List Expr) (elt : Expr) (scope : Scope) (N' : List Str) (fr : List (Option Nat)) (tg : Tg) (re : Re) : Prop :=
 ∃ wi tc te, PI X tgE iter wi /\ (∀ C cells s₂ H₂ fp, PTs (q0A X scope N' C cells s₂ H₂ fp) ifs tc) /\ (∀ C cells s₂ H₂ fp, PE (q0A X scope N' C cells s₂ H₂ fp) elt te) /\
  ∀ σ H Q, dE X.D E δ re σ H Q -> z0L fr wi (gT X.K tg) tc te σ H Q
theorem q4W {iter : Expr} {env : Env} (hset : q2N iter = false) : ∀ x, foldedSetIterable iter env x = pure x := by cases iter <;> first | (intro _; rfl) | cases hset
theorem q1x.pe (P : q1x X E δ tgE iter ifs elt scope N' fr tg re) (S : CompScope X.N N' scope X.env.scope fr) (hc : X.calm = true) (hG : ∀ C cells s₂ H₂ fp, PG (q0A X scope N' C cells s₂ H₂ fp) tgE (gT X.K tg)) (hset : q2N iter = false) :
  PE X (.ListComp elt [⟨tgE, iter, ifs, 0⟩] scope pos) (dE X.D E δ re) := by
 obtain ⟨wi, tc, te, h1, h2, h3, h4⟩ := P
 exact (z0D (pos := pos) S hc h1 hG h2 h3 (q4W hset)).weak h4
theorem RSt.noNames {D : Dm} {H : Hp} {σ : St} {δ : List Sv} {O W : List Addr} (R : RSt D H σ δ O W) (fr : List (Option Nat)) : RSt D H (L2.inner fr σ) (q0X fr []) O [] := by
 have no : ∀ (j : Nat) sv, (q0X fr [])[j]? = some sv -> sv = .no := λ j sv h => by
  unfold q0X at h
  rw [List.getElem?_map] at h
  cases q : fr[j]? with
  | none => rw [q] at h; cases h
  | some o =>
   rw [q] at h
   cases o with
   | none => cases h; rfl
   | some i => cases h; rfl
 refine ⟨λ j d h => (by cases no j _ h), λ j d h => (by cases no j _ h), λ j k a d d' h1 h2 e1 e2 => (by cases no j _ h1), λ j d h => (by cases no j _ h), λ j d h => (by cases no j _ h), ?_, ?_⟩
 ·unfold L2.inner q0X; rw [List.length_map, List.length_map]
 ·exact ⟨λ a ha => R.hid.ot a (by rw [List.append_nil] at ha; exact List.mem_append_left _ ha), Same.refl _, λ a ha => (nomatch ha), λ a ha => (nomatch ha)⟩
theorem q4t {evElt : List Sv -> Option Re} (S : CompScope X.N N' scope X.env.scope fr) (hc : X.calm = true) (hnd : ∀ (j k i : Nat), fr[j]? = some (some i) -> fr[k]? = some (some i) -> j = k) (hsl : ∀ i ∈ q2W tg, fr[i]? = some none) (hi : ∀ q, ri = some q -> PI X tgE iter (dI X.D E δ q))
  (hG : ∀ C cells s₂ H₂ fp, PG (q0A X scope N' C cells s₂ H₂ fp) tgE (gT X.K tg)) (he : ∀ δ' r, evElt δ' = some r -> ∀ C cells s₂ H₂ fp, PE (q0A X scope N' C cells s₂ H₂ fp) elt (dE X.D E0s δ' r))
  (h : (Ri.thn ri λ ds c => if c = .weak \/ mostLen < ds.length then (if c = .weak /\ ds.length <= mostLen then q3O (q1O (λ d => (tg.bind d (q0X fr [])).bind λ δ' => Rc.of (evElt δ')) ds) else none) else q2B (q1O (λ d => (tg.bind d (q0X fr δ)).bind λ δ' => Rc.of (evElt δ')) ds)) = some re) : q1x X E δ tgE iter [] elt scope N' fr tg re := by
 cases hri : ri with
 | none => rw [hri] at h; cases h
 | some q =>
  rw [hri] at h
  have A := hi q hri
  refine ⟨_, _, _, A, (λ C cells s₂ H₂ fp => z0P), (λ C cells s₂ H₂ fp => PE.any (ι := { p : List Sv × Re // evElt p.1 = some p.2 }) (t := λ k => dE X.D E0s k.1.1 k.1.2) λ k => he k.1.1 k.1.2 k.2 C cells s₂ H₂ fp), ?_⟩
  cases q with
  | ex c => cases h; exact λ σ H Q ⟨O, W, R, p⟩ => ⟨O, W, R, p⟩
  | ok ds c =>
   have h' : (if c = .weak \/ mostLen < ds.length then (if c = .weak /\ ds.length <= mostLen then q3O (q1O (λ d => (tg.bind d (q0X fr [])).bind λ δ' => Rc.of (evElt δ')) ds) else none) else q2B (q1O (λ d => (tg.bind d (q0X fr δ)).bind λ δ' => Rc.of (evElt δ')) ds)) = some re := h
   split at h'
   ·split at h'
    ·rename_i m
     obtain ⟨rfl, ml⟩ := m
     unfold q3O at h'
     split at h'
     ·cases h'
     ·rename_i xs hx
      cases h'
      refine λ σ H Q ⟨O, W, R, p⟩ => ⟨O, W, R, λ J H1 s1 w => ?_⟩
      have w' : Wk X.D J ds (hidW O [] .strong) (q1G O [] .strong) H1 := by
       show Wk X.D J ds (O ++ []) (O ++ []) H1
       rw [List.append_nil]; exact w
      have hd0 : Hid O [] H H := (R.noNames fr).hid
      refine q4V (tg := tg) (D := X.D) (O := O) (W := []) w' hd0 (by intro z; cases z) ((R.mono s1).noNames fr) (λ i hi => .inl (q4n (hsl i hi))) (q1P (by omega)) hx s1 (λ d rc hm hg => ?_) (λ d x hm hg δ' hb σ' H2 s2 R2 K hK => ?_) (λ v H' s' g' => p v H' s' ?_)
      ·cases hb : tg.bind d (q0X fr []) with
       | none => rw [hb] at hg; cases hg
       | some δ' =>
        rw [hb] at hg
        refine ⟨δ', rfl, λ σ' H2 s2 R2 K k1 k2 => ?_⟩
        cases rc with
        | skip => exact (Rc.of_skip hg).elim
        | item x => exact k2 x rfl H2 (Same.refl _)
      ·rw [hb] at hg
       obtain ⟨cl, e1, e2⟩ := Rc.of_item hg
       exact ⟨⟨⟨δ', .ok x cl⟩, e1⟩, O, [], R2, λ v H3 s3 g3 => hK v H3 s3 (g3.stro (R2.hid.mono s3) e2)⟩
      ·show Rep X.D (L2.wo O H') _ v
       have := Got.strong g' (hd0.mono s')
       rw [List.append_nil] at this
       exact this
    ·cases h'
   ·rename_i m
    rw [not_or] at m
    unfold q2B at h'
    split at h'
    ·cases h'
    ·rename_i xs hx
     cases h'
     refine λ σ H Q ⟨O, W, R, p⟩ => ⟨O, W, R, λ J H1 s1 w => ?_⟩
     refine q4V (tg := tg) (D := X.D) w R.hid m.1 ((R.mono s1).inner fr hnd) (λ i hi => .inl (q4n (hsl i hi))) (q1P (by omega)) hx s1 (λ d rc hm hg => ?_) (λ d x hm hg δ' hb σ' H2 s2 R2 K hK => ?_) p
     ·cases hb : tg.bind d (q0X fr δ) with
      | none => rw [hb] at hg; cases hg
      | some δ' =>
       rw [hb] at hg
       refine ⟨δ', rfl, λ σ' H2 s2 R2 K k1 k2 => ?_⟩
       cases rc with
       | skip => exact (Rc.of_skip hg).elim
       | item x => exact k2 x rfl H2 (Same.refl _)
     ·rw [hb] at hg
      obtain ⟨cl, e1, e2⟩ := Rc.of_item hg
      exact ⟨⟨⟨δ', .ok x cl⟩, e1⟩, O, W, R2, λ v H3 s3 g3 => hK v H3 s3 (g3.stro (R2.hid.mono s3) e2)⟩
theorem q4h {evElt : List Sv -> Option Re} {evC : List Sv -> Option Rt} {cond : Expr} (S : CompScope X.N N' scope X.env.scope fr) (hc : X.calm = true) (hnd : ∀ (j k i : Nat), fr[j]? = some (some i) -> fr[k]? = some (some i) -> j = k) (hsl : ∀ i ∈ q2W tg, fr[i]? = some none) (hi : ∀ q, ri = some q -> PI X tgE iter (dI X.D E δ q))
  (hG : ∀ C cells s₂ H₂ fp, PG (q0A X scope N' C cells s₂ H₂ fp) tgE (gT X.K tg)) (he : ∀ δ' r, evElt δ' = some r -> ∀ C cells s₂ H₂ fp, PE (q0A X scope N' C cells s₂ H₂ fp) elt (dE X.D E0s δ' r))
  (ht : ∀ δ' r, evC δ' = some r -> ∀ C cells s₂ H₂ fp, PT (q0A X scope N' C cells s₂ H₂ fp) cond (dT X.D E0s δ' r))
  (h : (Ri.thn ri λ ds c => if c = .weak \/ mostLen < ds.length then none else q2B (q1O (λ d => (tg.bind d (q0X fr δ)).bind λ δ' => Rc.test (evC δ') (Rc.of (evElt δ'))) ds)) = some re) : q1x X E δ tgE iter [cond] elt scope N' fr tg re := by
 cases hri : ri with
 | none => rw [hri] at h; cases h
 | some q =>
  rw [hri] at h
  have A := hi q hri
  refine ⟨_, _, _, A, (λ C cells s₂ H₂ fp => PTs.any (ι := { p : List Sv × Rt // evC p.1 = some p.2 }) (t := λ k => dT X.D E0s k.1.1 k.1.2) λ k => z0H (ht k.1.1 k.1.2 k.2 C cells s₂ H₂ fp)),
   (λ C cells s₂ H₂ fp => PE.any (ι := { p : List Sv × Re // evElt p.1 = some p.2 }) (t := λ k => dE X.D E0s k.1.1 k.1.2) λ k => he k.1.1 k.1.2 k.2 C cells s₂ H₂ fp), ?_⟩
  cases q with
  | ex c => cases h; exact λ σ H Q ⟨O, W, R, p⟩ => ⟨O, W, R, p⟩
  | ok ds c =>
   have h' : (if c = .weak \/ mostLen < ds.length then none else q2B (q1O (λ d => (tg.bind d (q0X fr δ)).bind λ δ' => Rc.test (evC δ') (Rc.of (evElt δ'))) ds)) = some re := h
   split at h'
   ·cases h'
   ·rename_i m
    rw [not_or] at m
    unfold q2B at h'
    split at h'
    ·cases h'
    ·rename_i xs hx
     cases h'
     refine λ σ H Q ⟨O, W, R, p⟩ => ⟨O, W, R, λ J H1 s1 w => ?_⟩
     refine q4V (tg := tg) (D := X.D) w R.hid m.1 ((R.mono s1).inner fr hnd) (λ i hi => .inl (q4n (hsl i hi))) (q1P (by omega)) hx s1 (λ d rc hm hg => ?_) (λ d x hm hg δ' hb σ' H2 s2 R2 K hK => ?_) p
     ·cases hb : tg.bind d (q0X fr δ) with
      | none => rw [hb] at hg; cases hg
      | some δ' =>
       rw [hb] at hg
       have hg' : Rc.test (evC δ') (Rc.of (evElt δ')) = some rc := hg
       refine ⟨δ', rfl, λ σ' H2 s2 R2 K k1 k2 => ?_⟩
       unfold Rc.test at hg'
       split at hg'
       ·rename_i q
        refine ⟨⟨⟨δ', .ok true⟩, q⟩, O, W, R2, λ H3 s3 => ?_⟩
        cases rc with
        | skip => exact (Rc.of_skip hg').elim
        | item x => exact k2 x rfl H3 s3
       ·rename_i q
        cases hg'
        exact ⟨⟨⟨δ', .ok false⟩, q⟩, O, W, R2, λ H3 s3 => k1 rfl H3 s3⟩
       ·cases hg'
     ·rw [hb] at hg
      have hg' : Rc.test (evC δ') (Rc.of (evElt δ')) = some (.item x) := hg
      unfold Rc.test at hg'
      split at hg'
      ·obtain ⟨cl, e1, e2⟩ := Rc.of_item hg'
       exact ⟨⟨⟨δ', .ok x cl⟩, e1⟩, O, W, R2, λ v H3 s3 g3 => hK v H3 s3 (g3.stro (R2.hid.mono s3) e2)⟩
      ·cases hg'
      ·cases hg'
end
end L2
end
section
namespace L2
open PySem PySem.Spec PyProof.Rows
noncomputable def dEnd (D : Dm) (E : St -> XK) (H0 : Hp) (O : List Addr) (Dn : Ends) : Out -> Prop
 | .nx δ => ∀ σ H W, RSt D H σ δ O W -> (∀ a ∈ W, H0 a = none) -> Same H0 H -> Dn.nx σ H
 | .rt d fr => ∀ v H, Same H0 H -> GotR D O H0 H d fr v -> Dn.rt v H
 | .rtt d => ∀ v H, Same H0 H -> GotT D O H0 H d v -> Dn.rt v H
 | .ex c δ => ∀ σ H W C, D.mg c = some C -> RSt D H σ δ O W -> (∀ a ∈ W, H0 a = none) -> Same H0 H -> E σ C none H
noncomputable def dS (D : Dm) (E : St -> XK) (δ : List Sv) (o : Out) : TS := λ Dn σ H => ∃ H0 O W, RSt D H σ δ O W /\ (∀ a ∈ W, H0 a = none) /\ (∀ a ∈ O, H0 a ≠ none) /\ Same H0 H /\ dEnd D E H0 O Dn o
section
variable {X : Cx} {E : St -> XK} {δ δ1 : List Sv} {st : Stmt} {rest body els : List Stmt} {o : Out} {e c : Expr} {pos pos' : Pos} {ra : Option Re} {rt : Option Rt} {i : Nat} {x : Str}
theorem z1B : PSs X [] (dS X.D E δ (.nx δ)) := q3w.weak λ Dn σ H ⟨H0, O, W, R, fr, fo, sm, k⟩ => k σ H W R fr sm
theorem q9W (h1 : PS X st (dS X.D E δ (.nx δ1))) (h2 : PSs X rest (dS X.D E δ1 o)) : PSs X (st :: rest) (dS X.D E δ o) :=
 (q1g h1 h2).weak λ Dn σ H ⟨H0, O, W, R, fr, fo, sm, k⟩ => ⟨H0, O, W, R, fr, fo, sm, λ σ' H' W' R' fr' sm' => ⟨H0, O, W', R', fr', fo, sm', k⟩⟩
theorem z2z {d : DV} {fr : Bool} (h1 : PS X st (dS X.D E δ (.rt d fr))) : PSs X (st :: rest) (dS X.D E δ (.rt d fr)) :=
 (q1g h1 q0L).weak λ Dn σ H ⟨H0, O, W, R, fr, fo, sm, k⟩ => ⟨H0, O, W, R, fr, fo, sm, k⟩
theorem z2a {d : DV} (h1 : PS X st (dS X.D E δ (.rtt d))) : PSs X (st :: rest) (dS X.D E δ (.rtt d)) :=
 (q1g h1 q0L).weak λ Dn σ H ⟨H0, O, W, R, fr, fo, sm, k⟩ => ⟨H0, O, W, R, fr, fo, sm, k⟩
theorem z2y {c : Str} {δ' : List Sv} (h1 : PS X st (dS X.D E δ (.ex c δ'))) : PSs X (st :: rest) (dS X.D E δ (.ex c δ')) :=
 (q1g h1 q0L).weak λ Dn σ H ⟨H0, O, W, R, fr, fo, sm, k⟩ => ⟨H0, O, W, R, fr, fo, sm, k⟩
theorem q4u {D : Dm} {H0 H : Hp} {O W : List Addr} {σ : St} {Dn : Ends} {c : Str} {Q : VK} (R : RSt D H σ δ O W) (fr : ∀ a ∈ W, H0 a = none) (sm : Same H0 H) (k : dEnd D E H0 O Dn (.ex c δ)) : Post D E σ O W H H Q (.ex c) :=
 λ H' C m s => k σ H' W C m (R.mono s) fr (sm.trans s)
theorem z2F (hc : ∀ q, rt = some q -> PT X c (dT X.D E δ q)) {ro rp : Option Out} (h1 : ∀ q, ro = some q -> PSs X body (dS X.D E δ q)) (h2 : ∀ q, rp = some q -> PSs X els (dS X.D E δ q)) (h : (Rt.thnS δ rt λ k => if k then ro else rp) = some o) : PS X (.If c body els pos) (dS X.D E δ o) := by
 cases hrt : rt with
 | none => rw [hrt] at h; cases h
 | some q =>
  rw [hrt] at h
  have C := hc q hrt
  cases q with
  | ex c => cases h; exact (q5I C q0L q0L).weak λ Dn σ H ⟨H0, O, W, R, fr, fo, sm, k⟩ => ⟨O, W, R, λ H' C m s => k σ H' W C m (R.mono s) fr (sm.trans s)⟩
  | ok b =>
   cases b with
   | true =>
    have h' : ro = some o := h
    exact (q5I C (h1 o h') q0L).weak λ Dn σ H ⟨H0, O, W, R, fr, fo, sm, k⟩ => ⟨O, W, R, λ H1 s1 => iteT ⟨H0, O, W, R.mono s1, fr, fo, sm.trans s1, k⟩⟩
   | false =>
    have h' : rp = some o := h
    exact (q5I C q0L (h2 o h')).weak λ Dn σ H ⟨H0, O, W, R, fr, fo, sm, k⟩ => ⟨O, W, R, λ H1 s1 => iteF ⟨H0, O, W, R.mono s1, fr, fo, sm.trans s1, k⟩⟩
theorem z1h (ha : ∀ q, ra = some q -> PE X e (dE X.D E δ q)) (h : (Re.thnS δ ra λ d c => some (retD d c)) = some o) : PS X (.Return (some e) pos) (dS X.D E δ o) := by
 cases hra : ra with
 | none => rw [hra] at h; cases h
 | some q =>
  rw [hra] at h
  have A := ha q hra
  cases q with
  | ex c => cases h; exact (q3B A).weak λ Dn σ H ⟨H0, O, W, R, fr, fo, sm, k⟩ => ⟨O, W, R, q4u R fr sm k⟩
  | ok d cl =>
   have h2 : some (retD d cl) = some o := h
   cases h2
   by_cases hft : cl = .ft
   ·subst hft
    refine (q3B A).weak λ Dn σ H ⟨H0, O, W, R, fr, fo, sm, k⟩ => ⟨O, W, R, λ v H1 s1 g => (k : dEnd X.D E H0 O Dn (.rtt d)) v H1 (sm.trans s1) ?_⟩
    obtain ⟨t, ts, p, xs, ds, es, e1, e2, e0, e3, e4, e5, e6⟩ := g
    have up : Same (L2.wo (p :: (O ++ W)) H1) (L2.wo (p :: O) H1) := q0U λ b hb => by rcases List.mem_cons.mp hb with z | z; exact List.mem_cons.mpr (.inl z); exact List.mem_cons_of_mem _ (List.mem_append_left _ z)
    exact .inl ⟨t, ts, p, xs, ds, es, e1, e2, (q0U q4U).tseq e0, sm.free e3, e4, e5.mono up, e6.mono up⟩
   have hrt : retD d cl = .rt d (frD d cl) := by cases cl <;> first | rfl | exact absurd rfl hft
   rw [hrt]
   refine (q3B A).weak λ Dn σ H ⟨H0, O, W, R, fr, fo, sm, k⟩ => ⟨O, W, R, λ v H1 s1 g => (k : dEnd X.D E H0 O Dn (.rt d (frD d cl))) v H1 (sm.trans s1) ?_⟩
   have hd := R.hid.mono s1
   cases hf : frD d cl with
   | false => exact g.weak hd
   | true =>
    unfold frD at hf
    split at hf
    ·obtain ⟨p, xs, ds, e1, e2, e3, e4, e5⟩ := g
     exact ⟨p, xs, ds, e1, e2, sm.free e3, e4, e5.mono (q0U λ b hb => by rcases List.mem_cons.mp hb with z | z; exact List.mem_cons.mpr (.inl z); exact List.mem_cons_of_mem _ (List.mem_append_left _ z))⟩
    ·obtain ⟨a, xs, e1, e0, e2, e3⟩ := g
     exact ⟨a, xs, _, e1, rfl, fr a e0, q1y _ _ e2, e3.mono (q0U λ b hb => by rcases List.mem_cons.mp hb with z | z; rw [z]; exact List.mem_append_right _ e0; exact List.mem_append_left _ z)⟩
    ·cases hf
theorem q1X {v : Expr} {t : Option Expr} {l : Nat} {env : Env} (h : q3z v = false) : swapsWith v t l env = pure false := by
 cases v <;> first | rfl | cases h
theorem z0Y (ha : ∀ q, ra = some q -> PE X e (dE X.D E δ q)) (hc : q3z e = false) (h : (Re.thnS δ ra λ _ _ => some (.nx δ)) = some o) : PS X (.Expr e pos) (dS X.D E δ o) := by
 cases hra : ra with
 | none => rw [hra] at h; cases h
 | some q =>
  rw [hra] at h
  have A := ha q hra
  cases q with
  | ex c => cases h; exact (q6r A (q1X hc)).weak λ Dn σ H ⟨H0, O, W, R, fr, fo, sm, k⟩ => ⟨O, W, R, q4u R fr sm k⟩
  | ok d cl => cases h; exact (q6r A (q1X hc)).weak λ Dn σ H ⟨H0, O, W, R, fr, fo, sm, k⟩ => ⟨O, W, R, λ v H1 s1 g => k σ H1 W (R.mono s1) fr (sm.trans s1)⟩
theorem q2j {O W : List Addr} {p b : Addr} : b ∈ O ++ p :: W ↔ b ∈ p :: (O ++ W) := by
 simp only [List.mem_append, List.mem_cons]
 constructor
 ·rintro (h | h | h)
  ·exact .inr (.inl h)
  ·exact .inl h
  ·exact .inr (.inr h)
 ·rintro (h | h | h)
  ·exact .inr (.inl h)
  ·exact .inl h
  ·exact .inr (.inr h)
theorem q0g {α : Type} {l : List α} {i j : Nat} {a b : α} (h : (l.set i a)[j]? = some b) (hn : a ≠ b) : j ≠ i := λ z => by
 subst z
 have hl : j < l.length := by
  have := (List.getElem?_eq_some_iff.mp h).1
  rw [List.length_set] at this; exact this
 rw [List.getElem?_set_self hl] at h
 exact hn (Option.some.inj h)
theorem q4o {α : Type} {l : List α} {i : Nat} {a b : α} (h : (l.set i a)[i]? = some b) : i < l.length /\ a = b := by
 have hl : i < l.length := by
  have := (List.getElem?_eq_some_iff.mp h).1
  rw [List.length_set] at this; exact this
 rw [List.getElem?_set_self hl] at h
 exact ⟨hl, Option.some.inj h⟩
theorem RSt.alloc {D : Dm} {H H' : Hp} {σ : St} {O W : List Addr} {p : Addr} {xs : List V} {ds : List DV} (R : RSt D H σ δ O W) (s : Same H H') (hp : H p = none) (hp' : H' p = some (.lst xs)) (r : RepL D (L2.wo (p :: (O ++ W)) H') ds xs) (i : Nat) :
  RSt D H' (σ.set i (some (.ref p))) (δ.set i (.own (.lst ds))) O (p :: W) := by
 have old : Same (L2.wo (O ++ W) H) (L2.wo (O ++ p :: W) H') := λ b o e => by
  obtain ⟨hb, e⟩ := q0W e
  have hbp : b ≠ p := q0y e hp
  rw [q0t (λ z => by rcases List.mem_cons.mp (q2j.mp z) with z | z; exact hbp z; exact hb z)]
  exact s b o e
 have eqv : Same (L2.wo (p :: (O ++ W)) H') (L2.wo (O ++ p :: W) H') := q0U λ b hb => q2j.mp hb
 refine ⟨λ j d h => ?_, λ j ds' h => ?_, λ j k a d1 d2 h1 h2 e1 e2 => ?_, λ j d h => ?_, λ j d h => by
   have hj := q0g h (by intro z; cases z)
   rw [List.getElem?_set_ne (Ne.symm hj)] at h ⊢
   obtain ⟨⟨p1, L, e0, e1, e2, e3⟩, u, n⟩ := R.o2 j d h
   refine ⟨⟨p1, L, e0, e1, (e2.mono s).sub λ a _ ha => List.mem_cons_of_mem _ ha, λ k d2 a q q2 => ?_⟩, λ k d2 q => ?_, λ k d2 q => ?_⟩
   ·by_cases hk : k = i
    ·subst hk
     obtain ⟨_, z⟩ := q4o q2
     cases z
     intro z
     obtain ⟨_, ys, w⟩ := e2.dom z
     rw [hp] at w
     cases w
    ·rw [List.getElem?_set_ne (Ne.symm hk)] at q q2
     exact e3 k d2 a q q2
   ·have hk := q0g q (by intro z; cases z)
    rw [List.getElem?_set_ne (Ne.symm hk)] at q
    exact u k d2 q
   ·have hk := q0g q (by intro z; cases z)
    rw [List.getElem?_set_ne (Ne.symm hk)] at q
    exact n k d2 q, by rw [List.length_set, List.length_set]; exact R.len, ⟨λ a ha => ?_, Same.refl _, λ a ha => ?_, λ a ha => ?_⟩⟩
 ·have hj := q0g h (by intro z; cases z)
  rw [List.getElem?_set_ne (Ne.symm hj)] at h ⊢
  obtain ⟨v, e1, e2⟩ := R.val j d h
  exact ⟨v, e1, e2.mono old⟩
 ·by_cases hj : j = i
  ·subst hj
   obtain ⟨hl, e⟩ := q4o h
   cases e
   exact ⟨p, xs, ds, rfl, List.getElem?_set_self (by rw [R.len]; exact hl), List.mem_cons_self, hp', r.mono eqv⟩
  ·rw [List.getElem?_set_ne (Ne.symm hj)] at h ⊢
   obtain ⟨a, ys, ds1, e0, e1, e2, e3, e4⟩ := R.own j ds' h
   exact ⟨a, ys, ds1, e0, e1, List.mem_cons_of_mem _ e2, s _ _ e3, e4.mono old⟩
 ·have key : ∀ {j : Nat} {d1 : DV}, (δ.set i (.own (.lst ds)))[j]? = some (.own d1) -> (σ.set i (some (.ref p)))[j]? = some (some (V.ref a)) -> (j = i /\ a = p) \/ (j ≠ i /\ δ[j]? = some (.own d1) /\ σ[j]? = some (some (V.ref a)) /\ a ≠ p) := λ {j d1} h e => by
   by_cases hj : j = i
   ·subst hj
    obtain ⟨_, z⟩ := q4o e
    cases z
    exact .inl ⟨rfl, rfl⟩
   ·rw [List.getElem?_set_ne (Ne.symm hj)] at h e
    refine .inr ⟨hj, h, e, λ z => ?_⟩
    obtain ⟨a', ys, ds1, _, q1, _, q3, _⟩ := R.own j d1 h
    rw [e] at q1; cases q1
    rw [z, hp] at q3; cases q3
  rcases key h1 e1 with ⟨z1, z2⟩ | ⟨z1, z2, z3, z4⟩ <;> rcases key h2 e2 with ⟨y1, y2⟩ | ⟨y1, y2, y3, y4⟩
  ·rw [z1, y1]
  ·exact absurd z2 y4
  ·exact absurd y2 z4
  ·exact R.inj j k a d1 d2 z2 y2 z3 y3
 ·have hj := q0g h (by intro z; cases z)
  rw [List.getElem?_set_ne (Ne.symm hj)] at h ⊢
  obtain ⟨⟨t, ts, p1, ys, ds1, es, e0, e1, e2, e3, e4, e5, e6, e7⟩, u⟩ := R.ot j d h
  refine ⟨⟨t, ts, p1, ys, ds1, es, e0, e1, old.tseq e2, List.mem_cons_of_mem _ e3, s _ _ e4, e5.mono old, e6.mono old, λ k d2 q => ?_⟩, λ k d2 q => ?_⟩
  ·by_cases hk : k = i
   ·subst hk
    intro z
    obtain ⟨_, z⟩ := q4o z
    cases z
    rw [hp] at e4
    cases e4
   ·rw [List.getElem?_set_ne (Ne.symm hk)] at q ⊢
    exact e7 k d2 q
  ·have hk := q0g q (by intro z; cases z)
   rw [List.getElem?_set_ne (Ne.symm hk)] at q
   exact u k d2 q
 ·rcases List.mem_cons.mp (q2j.mp ha) with z | z
  ·rw [z, hp']; intro q; cases q
  ·intro q; exact R.hid.ot a z (s.free q)
 ·rcases List.mem_cons.mp ha with z | z
  ·exact ⟨xs, by rw [z]; exact hp'⟩
  ·obtain ⟨ys, q⟩ := R.hid.wl a z; exact ⟨ys, s _ _ q⟩
 ·rcases List.mem_cons.mp ha with z | z
  ·intro q; exact R.hid.ot p (List.mem_append_left _ (by rw [← z]; exact q)) hp
  ·exact R.hid.dj a z
theorem q7q {i : Nat} {δ : List Sv} (h : noOt i δ = true) {j : Nat} {d : DV} (q : δ[j]? = some (.ot d)) : j = i := by
 unfold noOt at h
 rw [List.all_eq_true] at h
 have hj : j < δ.length := (List.getElem?_eq_some_iff.mp q).1
 have := h j (List.mem_range.mpr hj)
 rw [q] at this
 simpa using this
theorem z1e {i : Nat} {δ : List Sv} (h : noOt i δ = true) {j : Nat} {d : DV} (q : δ[j]? = some (.o2 d)) : j = i := by
 unfold noOt at h
 rw [List.all_eq_true] at h
 have hj : j < δ.length := (List.getElem?_eq_some_iff.mp q).1
 have := h j (List.mem_range.mpr hj)
 rw [q] at this
 simpa using this
theorem RSt.allocT {D : Dm} {H H' : Hp} {σ : St} {O W : List Addr} {t p : Addr} {ts xs : List V} {ds es : List DV} (R : RSt D H σ δ O W) (s : Same H H') (ht : SqT D.K (L2.wo (O ++ W) H') t (.ref p :: ts)) (hp : H p = none) (hp' : H' p = some (.lst xs)) (r : RepL D (L2.wo (p :: (O ++ W)) H') ds xs) (r2 : RepL D (L2.wo (p :: (O ++ W)) H') es ts) (i : Nat) (hno : noOt i δ = true) :
  RSt D H' (σ.set i (some (.ref t))) (δ.set i (.ot (.tup (.lst ds :: es)))) O (p :: W) := by
 have old : Same (L2.wo (O ++ W) H) (L2.wo (O ++ p :: W) H') := λ b o e => by
  obtain ⟨hb, e⟩ := q0W e
  have hbp : b ≠ p := q0y e hp
  rw [q0t (λ z => by rcases List.mem_cons.mp (q2j.mp z) with z | z; exact hbp z; exact hb z)]
  exact s b o e
 have eqv : Same (L2.wo (p :: (O ++ W)) H') (L2.wo (O ++ p :: W) H') := q0U λ b hb => q2j.mp hb
 have ht' : SqT D.K (L2.wo (O ++ p :: W) H') t (.ref p :: ts) := by
  have ne : ∀ {o : HO}, L2.wo (O ++ W) H' t = some o -> (∀ ys, o ≠ .lst ys) -> L2.wo (O ++ p :: W) H' t = some o := λ {o} e ho => by
   obtain ⟨hb, e⟩ := q0W e
   rw [q0t (λ z => by
    rcases List.mem_cons.mp (q2j.mp z) with z | z
    ·rw [z, hp'] at e; cases e; exact ho _ rfl
    ·exact hb z)]
   exact e
  rcases ht with (h | ⟨o, h⟩) | h
  ·exact .inl (.inl (ne h (by intro ys z; cases z)))
  ·exact .inl (.inr ⟨o, ne h (by intro ys z; cases z)⟩)
  ·exact .inr h
 refine ⟨λ j d h => ?_, λ j ds' h => ?_, λ j k a d1 d2 h1 h2 e1 e2 => ?_, λ j d h => ?_, λ j d h => absurd (z1e hno (by have hj := q0g h (by intro z; cases z); rw [List.getElem?_set_ne (Ne.symm hj)] at h; exact h)) (q0g h (by intro z; cases z)), by rw [List.length_set, List.length_set]; exact R.len, ⟨λ a ha => ?_, Same.refl _, λ a ha => ?_, λ a ha => ?_⟩⟩
 ·have hj := q0g h (by intro z; cases z)
  rw [List.getElem?_set_ne (Ne.symm hj)] at h ⊢
  obtain ⟨v, e1, e2⟩ := R.val j d h
  exact ⟨v, e1, e2.mono old⟩
 ·have hj := q0g h (by intro z; cases z)
  rw [List.getElem?_set_ne (Ne.symm hj)] at h ⊢
  obtain ⟨a, ys, ds1, e0, e1, e2, e3, e4⟩ := R.own j ds' h
  exact ⟨a, ys, ds1, e0, e1, List.mem_cons_of_mem _ e2, s _ _ e3, e4.mono old⟩
 ·have n1 := q0g h1 (by intro z; cases z)
  have n2 := q0g h2 (by intro z; cases z)
  rw [List.getElem?_set_ne (Ne.symm n1)] at h1 e1
  rw [List.getElem?_set_ne (Ne.symm n2)] at h2 e2
  exact R.inj j k a d1 d2 h1 h2 e1 e2
 ·have hj : j = i := by
   by_cases hj : j = i
   ·exact hj
   ·rw [List.getElem?_set_ne (Ne.symm hj)] at h
    exact q7q hno h
  subst hj
  obtain ⟨hl, e⟩ := q4o h
  cases e
  refine ⟨⟨t, ts, p, xs, ds, es, rfl, List.getElem?_set_self (by rw [R.len]; exact hl), ht', List.mem_cons_self, hp', r.mono eqv, r2.mono eqv, λ k d2 q => ?_⟩, λ k d2 q => ?_⟩
  ·have hk := q0g q (by intro z; cases z)
   rw [List.getElem?_set_ne (Ne.symm hk)] at q ⊢
   intro z
   obtain ⟨a, ys, ds1, f0, f1, f2, f3, f4⟩ := R.own k d2 q
   rw [z] at f1
   cases f1
   rw [hp] at f3
   cases f3
  ·by_cases hk : k = j
   ·exact hk
   ·rw [List.getElem?_set_ne (Ne.symm hk)] at q
    exact q7q hno q
 ·rcases List.mem_cons.mp (q2j.mp ha) with z | z
  ·rw [z, hp']; intro q; cases q
  ·intro q; exact R.hid.ot a z (s.free q)
 ·rcases List.mem_cons.mp ha with z | z
  ·exact ⟨xs, by rw [z]; exact hp'⟩
  ·obtain ⟨ys, q⟩ := R.hid.wl a z; exact ⟨ys, s _ _ q⟩
 ·rcases List.mem_cons.mp ha with z | z
  ·intro q; exact R.hid.ot p (List.mem_append_left _ (by rw [← z]; exact q)) hp
  ·exact R.hid.dj a z
theorem RSt.write {D : Dm} {H : Hp} {σ : St} {O W : List Addr} {a : Addr} {xs' : List V} {ds ds' : List DV} (R : RSt D H σ δ O W) (hi : δ[i]? = some (.own (.lst ds))) (ha : σ[i]? = some (some (.ref a))) (r : RepL D (L2.wo (O ++ W) H) ds' xs') :
  RSt D (upd H a (.lst xs')) σ (δ.set i (.own (.lst ds'))) O W := by
 obtain ⟨a', xs, ds0, e0, e1, e2, e3, e4⟩ := R.own i _ hi
 rw [ha] at e1; cases e1
 have old : Same (L2.wo (O ++ W) H) (L2.wo (O ++ W) (upd H a (.lst xs'))) := λ b o e => by
  obtain ⟨hb, e⟩ := q0W e
  rw [q0t hb, q0v λ z => hb (by rw [z]; exact List.mem_append_right _ e2)]
  exact e
 have hl : i < δ.length := (List.getElem?_eq_some_iff.mp hi).1
 refine ⟨λ j d h => ?_, λ j ds'' h => ?_, λ j k b d1 d2 h1 h2 q1 q2 => ?_, λ j d h => ?_, λ j d h => by
   have hj := q0g h (by intro z; cases z)
   rw [List.getElem?_set_ne (Ne.symm hj)] at h
   obtain ⟨⟨p1, L, f0, f1, f2, f3⟩, u, n⟩ := R.o2 j d h
   refine ⟨⟨p1, L, f0, f1, f2.write (f3 i _ a hi ha), λ k d2 b q q2 => ?_⟩, λ k d2 q => ?_, λ k d2 q => ?_⟩
   ·by_cases hk : k = i
    ·subst hk
     exact f3 k _ b hi q2
    ·rw [List.getElem?_set_ne (Ne.symm hk)] at q
     exact f3 k d2 b q q2
   ·have hk := q0g q (by intro z; cases z)
    rw [List.getElem?_set_ne (Ne.symm hk)] at q
    exact u k d2 q
   ·have hk := q0g q (by intro z; cases z)
    rw [List.getElem?_set_ne (Ne.symm hk)] at q
    exact n k d2 q, by rw [List.length_set]; exact R.len, ⟨λ b hb q => ?_, Same.refl _, λ b hb => ?_, R.hid.dj⟩⟩
 ·have hj := q0g h (by intro z; cases z)
  rw [List.getElem?_set_ne (Ne.symm hj)] at h
  obtain ⟨v, q1, q2⟩ := R.val j d h
  exact ⟨v, q1, q2.mono old⟩
 ·by_cases hj : j = i
  ·subst hj
   obtain ⟨_, e⟩ := q4o h
   cases e
   exact ⟨a, xs', ds', rfl, ha, e2, q0Q, r.mono old⟩
  ·rw [List.getElem?_set_ne (Ne.symm hj)] at h
   obtain ⟨b, ys, ds1, q0, q1, q2, q3, q4⟩ := R.own j ds'' h
   refine ⟨b, ys, ds1, q0, q1, q2, ?_, q4.mono old⟩
   rw [q0v λ z => hj (R.inj j i a ds'' _ h hi (by rw [← z]; exact q1) ha)]
   exact q3
 ·have key : ∀ {j : Nat} {d1 : DV}, (δ.set i (.own (.lst ds')))[j]? = some (.own d1) -> ∃ d0, δ[j]? = some (.own d0) := λ {j d1} h => by
   by_cases hj : j = i
   ·subst hj; exact ⟨_, hi⟩
   ·rw [List.getElem?_set_ne (Ne.symm hj)] at h; exact ⟨d1, h⟩
  obtain ⟨d1', z1⟩ := key h1
  obtain ⟨d2', z2⟩ := key h2
  exact R.inj j k b d1' d2' z1 z2 q1 q2
 ·have hj := q0g h (by intro z; cases z)
  rw [List.getElem?_set_ne (Ne.symm hj)] at h
  obtain ⟨⟨t, ts, p1, ys, ds1, es, f0, f1, f2, f3, f4, f5, f6, f7⟩, u⟩ := R.ot j d h
  refine ⟨⟨t, ts, p1, ys, ds1, es, f0, f1, old.tseq f2, f3, ?_, f5.mono old, f6.mono old, λ k d2 q => ?_⟩, λ k d2 q => ?_⟩
  ·rw [q0v λ z => f7 i _ hi (by rw [z]; exact ha)]
   exact f4
  ·by_cases hk : k = i
   ·subst hk
    exact f7 k _ hi
   ·rw [List.getElem?_set_ne (Ne.symm hk)] at q
    exact f7 k d2 q
  ·have hk := q0g q (by intro z; cases z)
   rw [List.getElem?_set_ne (Ne.symm hk)] at q
   exact u k d2 q
 ·by_cases hba : b = a
  ·rw [hba, q0Q] at q; cases q
  ·rw [q0v hba] at q; exact R.hid.ot b hb q
 ·by_cases hba : b = a
  ·exact ⟨xs', by rw [hba]; exact q0Q⟩
  ·obtain ⟨ys, q⟩ := R.hid.wl b hb; exact ⟨ys, by rw [q0v hba]; exact q⟩
theorem q4A {H0 H : Hp} {a : Addr} {o : HO} (h : Same H0 H) (ha : H0 a = none) : Same H0 (upd H a o) := λ b u e => by
 rw [q0v (q0y e ha)]
 exact h b u e
theorem z0w {Dn : Ends} {σ : St} {H H0 : Hp} {O W : List Addr} {own : Bool} {d : DV} {cl : Cl} {D : Dm} (h : (if own then q4m i δ d cl else (if stro d cl then some (.nx (δ.set i (.val d))) else none)) = some o)
  (R : RSt D H σ δ O W) (fr : ∀ a ∈ W, H0 a = none) (sm : Same H0 H) (k : dEnd D E H0 O Dn o) : ∀ v H', Same H H' -> Got D O W H H' d cl v -> Dn.nx (σ.set i (some v)) H' := λ v H1 s1 g => by
 cases own with
 | true =>
  simp only [if_true] at h
  unfold q4m at h
  split at h
  ·cases h
   obtain ⟨p, xs, ds, e1, e2, e3, e4, e5⟩ := g
   subst e1 e2
   exact k _ H1 (p :: W) (R.alloc s1 e3 e4 e5 i) (λ a ha => by
    rcases List.mem_cons.mp ha with z | z
    ·rw [z]; exact sm.free e3
    ·exact fr a z) (sm.trans s1)
  ·split at h
   ·rename_i hno
    cases h
    obtain ⟨t, ts, p, xs, ds, es, e1, e2, e0, e3, e4, e5, e6⟩ := g
    subst e1 e2
    exact k _ H1 (p :: W) (R.allocT s1 e0 e3 e4 e5 e6 i hno) (λ a ha => by
     rcases List.mem_cons.mp ha with z | z
     ·rw [z]; exact sm.free e3
     ·exact fr a z) (sm.trans s1)
   ·cases h
  ·cases h
 | false =>
  simp only [Bool.false_eq_true, if_false] at h
  split at h
  ·rename_i m
   cases h
   exact k _ H1 W ((R.mono s1).setVal (g.stro (R.hid.mono s1) m) i) fr (sm.trans s1)
  ·cases h
theorem q8s {own : Bool} (hN : X.N.Nodup) (hi : X.N[i]? = some x) (hx : Loc X.env.scope x) (hf : X.fn x = true \/ X.env.scope.names.lookup x = some .local) (ha : ∀ q, ra = some q -> PE X e (dE X.D E δ q)) (hc : swapsWith e (some (.Name x pos')) pos.line X.env = pure false)
  (h : (Re.thnS δ ra λ d c => if own then q4m i δ d c else (if stro d c then some (.nx (δ.set i (.val d))) else none)) = some o) : PS X (.Assign [.Name x pos'] e pos) (dS X.D E δ o) := by
 cases hra : ra with
 | none => rw [hra] at h; cases h
 | some q =>
  rw [hra] at h
  have A := ha q hra
  cases q with
  | ex c => cases h; exact (q6t hN hi hx A hc hf).weak λ Dn σ H ⟨H0, O, W, R, fr, fo, sm, k⟩ => ⟨O, W, R, q4u R fr sm k⟩
  | ok d cl => exact (q6t hN hi hx A hc hf).weak λ Dn σ H ⟨H0, O, W, R, fr, fo, sm, k⟩ => ⟨O, W, R, z0w h R fr sm k⟩
theorem q6n {own : Bool} {tgE iter elt : Expr} {ifs : List Expr} {scope : Scope} {N' : List Str} {fr : List (Option Nat)} {tg : Tg} {re : Re} (S : CompScope X.N N' scope X.env.scope fr) (hc : X.calm = true) (hN : X.N.Nodup) (hi : X.N[i]? = some x) (hx : X.env.scope.names.lookup x = some .local)
  (P : q1x X E δ tgE iter ifs elt scope N' fr tg re) (hG : ∀ C cells s₂ H₂ fp, PG (q0A X scope N' C cells s₂ H₂ fp) tgE (gT X.K tg)) (hset : q2N iter = false) {cpos : Pos} (hsw : swapsWith (.ListComp elt [⟨tgE, iter, ifs, 0⟩] scope cpos) (some (.Name x pos')) pos.line X.env = pure true)
  (h : (Re.thnS δ (some re) λ d c => if own then q4m i δ d c else (if stro d c then some (.nx (δ.set i (.val d))) else none)) = some o) : PS X (.Assign [.Name x pos'] (.ListComp elt [⟨tgE, iter, ifs, 0⟩] scope cpos) pos) (dS X.D E δ o) := by
 obtain ⟨wi, tc, te, h1, h2, h3, h4⟩ := P
 refine (q7c S hc hN hi hx h1 hG h2 h3 hsw (q4W hset)).weak λ Dn σ H ⟨H0, O, W, R, fr, fo, sm, k⟩ => h4 σ H _ ⟨O, W, R, ?_⟩
 cases re with
 | ex c => cases h; exact q4u R fr sm k
 | ok d cl => exact z0w h R fr sm k
theorem q6W {apos cpos npos : Pos} (hv : PE X (.Name x npos) (tVar i)) (he : ∀ q, ra = some q -> PE X e (dE X.D E δ q)) (hs : q0x e = false) (hline : (apos.endLine == cpos.line) = true)
  (h : (match δ[i]? with
   | some (.own (.lst ds)) => Re.thnS δ ra λ d c => if stro d c /\ ds.length < mostLen then some (.nx (δ.set i (.own (.lst (ds ++ [d]))))) else none
   | _ => none) = some o) : PS X (.Expr (.Call (.Attribute (.Name x npos) "append" apos) [e] [] cpos) pos) (dS X.D E δ o) := by
 split at h
 ·rename_i ds hi
  have C := λ t (hA : PE X e t) => q6r (pos := pos) (z2l PySem.F.plainAttrs_list PySem.F.slot_list_append PySem.F.type_list_append q8u hv (q0N hA q2C (q0j hs)) rfl (by rw [q0j hs]; rfl) hline (q0j hs) rfl) rfl
  cases hra : ra with
  | none => rw [hra] at h; cases h
  | some q =>
   rw [hra] at h
   have A := he q hra
   cases q with
   | ex c =>
    cases h
    exact (C _ A).weak λ Dn σ H ⟨H0, O, W, R, fr, fo, sm, k⟩ => by
     obtain ⟨a, xs, ds0, e0, e1, e2, e3, e4⟩ := R.own i _ hi
     exact ⟨.ref a, e1, .inl ⟨rfl, xs, SqL.of e3⟩, O, W, R, q4u (Q := λ _ _ => False) R fr sm k⟩
   | ok d cl =>
    have h' : (if stro d cl /\ ds.length < mostLen then some (Out.nx (δ.set i (.own (.lst (ds ++ [d]))))) else none) = some o := h
    split at h'
    ·rename_i m
     cases h'
     exact (C _ A).weak λ Dn σ H ⟨H0, O, W, R, fr, fo, sm, k⟩ => by
      obtain ⟨a, xs, ds0, e0, e1, e2, e3, e4⟩ := R.own i _ hi
      cases e0
      refine ⟨.ref a, e1, .inl ⟨rfl, xs, SqL.of e3⟩, O, W, R, λ v H1 s1 g => ?_⟩
      have R1 := R.mono s1
      refine ⟨a, xs, v, rfl, rfl, s1 _ _ e3, by rw [e4.length]; exact Nat.lt_of_lt_of_le m.2 (by decide), ?_⟩
      exact k σ _ W (R1.write hi e1 ((e4.mono s1.wo).append (RepL.one (g.stro (R.hid.mono s1) m.1)))) fr (q4A (sm.trans s1) (fr a e2))
    ·cases h'
 ·cases h
theorem q8p {npos spos : Pos} {ix : Expr} {rb : Option Re} (hv : PE X (.Name x npos) (tVar i)) (he : ∀ q, ra = some q -> PE X e (dE X.D E δ q)) (hx : ∀ q, rb = some q -> PE X ix (dE X.D E δ q)) (hsl : q4L ix = false)
  (h : (match δ[i]? with
   | some (.own (.lst ds)) => Re.thnS δ ra λ d c => Re.thnS δ rb λ k _ => (match k with
    | .int k => (match q2Y ds.length k with
     | some j => if stro d c then some (.nx (δ.set i (.own (.lst (ds.set j d))))) else none
     | none => none)
    | _ => none)
   | _ => none) = some o) : PS X (.Assign [.Subscript (.Name x npos) ix spos] e pos) (dS X.D E δ o) := by
 have sub : ∀ v, assign (.Subscript (.Name x npos) ix spos) X.env v = (do
   let ov ← holding [v] (eval (.Name x npos) X.env)
   let iv ← holding [v, ov] (eval ix X.env)
   standAt spos
   holding [v, ov, iv] (setItem ov iv v)
   release [v, ov, iv] []) := by cases ix <;> first | (intro _; rfl) | cases hsl
 have C := λ t tk (hA : PE X e t) (hK : PE X ix tk) => z0p (pos := pos) hA (z3c hv hK q9s sub) (by cases e <;> rfl) (by cases e <;> rfl) rfl
 split at h
 ·rename_i ds hi
  cases hra : ra with
  | none => rw [hra] at h; cases h
  | some q =>
   rw [hra] at h
   have A := he q hra
   cases q with
   | ex c =>
    cases h
    exact (C _ _ A q1W).weak λ Dn σ H ⟨H0, O, W, R, fr, fo, sm, k⟩ => ⟨O, W, R, q4u (Q := λ _ _ => False) R fr sm k⟩
   | ok d cl =>
    cases hrb : rb with
    | none => rw [hrb] at h; cases h
    | some q =>
     rw [hrb] at h
     have B := hx q hrb
     cases q with
     | ex c =>
      cases h
      exact (C _ _ A B).weak λ Dn σ H ⟨H0, O, W, R, fr, fo, sm, k⟩ => ⟨O, W, R, λ v H1 s1 g => by
       have R1 := R.mono s1
       obtain ⟨a, xs, ds0, e0, e1, e2, e3, e4⟩ := R1.own i _ hi
       exact ⟨.ref a, e1, O, W, R1, q4u (Q := λ _ _ => False) R1 fr (sm.trans s1) k⟩⟩
     | ok dk ck =>
      have h' : (match (generalizing := false) dk with
       | .int k => (match q2Y ds.length k with
        | some j => if stro d cl then some (Out.nx (δ.set i (.own (.lst (ds.set j d))))) else none
        | none => none)
       | _ => none) = some o := h
      split at h'
      ·rename_i k0
       split at h'
       ·rename_i j hj
        split at h'
        ·rename_i m
         cases h'
         exact (C _ _ A B).weak λ Dn σ H ⟨H0, O, W, R, fr, fo, sm, k⟩ => ⟨O, W, R, λ v H1 s1 g => by
          have R1 := R.mono s1
          obtain ⟨a, xs, ds0, e0, e1, e2, e3, e4⟩ := R1.own i _ hi
          cases e0
          refine ⟨.ref a, e1, O, W, R1, λ y H2 s2 g2 => ?_⟩
          have R2 := R1.mono s2
          refine ⟨a, xs, k0, j, rfl, g2.int (R1.hid.mono s2), s2 _ _ e3, by rw [e4.length]; exact hj, ?_⟩
          exact k σ _ W (R2.write hi e1 (RepL.set ((g.mono s2).stro ((R.hid.mono s1).mono s2) m) j (e4.mono s2.wo))) fr (q4A ((sm.trans s1).trans s2) (fr a e2))⟩
        ·cases h'
       ·cases h'
      ·cases h'
 ·cases h
theorem RSt.freeze {D : Dm} {H : Hp} {σ : St} {O W : List Addr} {d : DV} (R : RSt D H σ δ O W) (hi : δ[i]? = some (.own d)) : ∃ W', (∀ a ∈ W', a ∈ W) /\ RSt D H σ (δ.set i (.val d)) O W' := by
 obtain ⟨a, xs, ds, e0, e1, e2, e3, e4⟩ := R.own i d hi
 subst e0
 have hl : i < δ.length := (List.getElem?_eq_some_iff.mp hi).1
 have sub : ∀ b ∈ O ++ W.filter (λ b => decide (b ≠ a)), b ∈ O ++ W := λ b hb => by
  rcases List.mem_append.mp hb with z | z
  ·exact List.mem_append_left _ z
  ·exact List.mem_append_right _ (List.mem_filter.mp z).1
 have hao : a ∉ O ++ W.filter (λ b => decide (b ≠ a)) := λ z => by
  rcases List.mem_append.mp z with z | z
  ·exact R.hid.dj a e2 z
  ·exact absurd rfl (of_decide_eq_true (List.mem_filter.mp z).2)
 refine ⟨W.filter λ b => decide (b ≠ a), λ b hb => (List.mem_filter.mp hb).1, ⟨λ j d h => ?_, λ j ds' h => ?_, λ j k b d1 d2 h1 h2 q1 q2 => ?_, λ j d h => ?_, λ j d h => by
   have hj := q0g h (by intro z; cases z)
   rw [List.getElem?_set_ne (Ne.symm hj)] at h
   obtain ⟨⟨p1, L, f0, f1, f2, f3⟩, u, n⟩ := R.o2 j d h
   refine ⟨⟨p1, L, f0, f1, f2.sub λ b hb hbw => List.mem_filter.mpr ⟨hbw, decide_eq_true λ z => f3 i _ a hi e1 (by rw [← z]; exact hb)⟩, λ k d2 b q q2 => ?_⟩, λ k d2 q => ?_, λ k d2 q => ?_⟩
   ·have hk := q0g q (by intro z; cases z)
    rw [List.getElem?_set_ne (Ne.symm hk)] at q
    exact f3 k d2 b q q2
   ·have hk := q0g q (by intro z; cases z)
    rw [List.getElem?_set_ne (Ne.symm hk)] at q
    exact u k d2 q
   ·have hk := q0g q (by intro z; cases z)
    rw [List.getElem?_set_ne (Ne.symm hk)] at q
    exact n k d2 q, by rw [List.length_set]; exact R.len,
  ⟨λ b hb => R.hid.ot b (sub b hb), Same.refl _, λ b hb => R.hid.wl b (List.mem_filter.mp hb).1, λ b hb => R.hid.dj b (List.mem_filter.mp hb).1⟩⟩⟩
 ·by_cases hj : j = i
  ·subst hj
   obtain ⟨_, e⟩ := q4o h
   cases e
   exact ⟨.ref a, e1, q0H.mpr ⟨a, xs, rfl, by rw [q0t hao]; exact e3, e4.mono (q0U sub)⟩⟩
  ·rw [List.getElem?_set_ne (Ne.symm hj)] at h
   obtain ⟨v, q1, q2⟩ := R.val j d h
   exact ⟨v, q1, q2.mono (q0U sub)⟩
 ·have hj := q0g h (by intro z; cases z)
  rw [List.getElem?_set_ne (Ne.symm hj)] at h
  obtain ⟨b, ys, ds1, q0, q1, q2, q3, q4⟩ := R.own j ds' h
  refine ⟨b, ys, ds1, q0, q1, List.mem_filter.mpr ⟨q2, decide_eq_true λ z => hj (R.inj j i a ds' _ h hi (by rw [← z]; exact q1) e1)⟩, q3, q4.mono (q0U sub)⟩
 ·have n1 := q0g h1 (by intro z; cases z)
  have n2 := q0g h2 (by intro z; cases z)
  rw [List.getElem?_set_ne (Ne.symm n1)] at h1
  rw [List.getElem?_set_ne (Ne.symm n2)] at h2
  exact R.inj j k b d1 d2 h1 h2 q1 q2
 ·have hj := q0g h (by intro z; cases z)
  rw [List.getElem?_set_ne (Ne.symm hj)] at h
  obtain ⟨⟨t, ts, p1, ys, ds1, es, f0, f1, f2, f3, f4, f5, f6, f7⟩, u⟩ := R.ot j d h
  refine ⟨⟨t, ts, p1, ys, ds1, es, f0, f1, (q0U sub).tseq f2, List.mem_filter.mpr ⟨f3, decide_eq_true λ z => f7 i _ hi (by rw [z]; exact e1)⟩, f4, f5.mono (q0U sub), f6.mono (q0U sub), λ k d2 q => ?_⟩, λ k d2 q => ?_⟩
  ·have hk := q0g q (by intro z; cases z)
   rw [List.getElem?_set_ne (Ne.symm hk)] at q
   exact f7 k d2 q
  ·have hk := q0g q (by intro z; cases z)
   rw [List.getElem?_set_ne (Ne.symm hk)] at q
   exact u k d2 q
theorem q7e {d : DV} (hi : δ[i]? = some (.own d)) (h : PSs X rest (dS X.D E (δ.set i (.val d)) o)) : PSs X rest (dS X.D E δ o) := h.weak λ Dn σ H ⟨H0, O, W, R, fr, fo, sm, k⟩ => by
 obtain ⟨W', hs, R'⟩ := R.freeze hi
 exact ⟨H0, O, W', R', λ a ha => fr a (hs a ha), fo, sm, k⟩
end
end L2
end
section
namespace L2
open PySem PySem.Spec PyProof.Rows
section
variable {X : Cx} {E : St -> XK} {δ δ1 : List Sv} {o : Out} {e c : Expr} {pos pos' : Pos} {ra : Option Re} {i : Nat} {x : Str}
theorem Got.seq {D : Dm} {O W : List Addr} {H0 H : Hp} {d : DV} {ys : List DV} {b : Bool} {c : Cl} {v : V} (g : Got D O W H0 H d c v) (hd : Hid O W H0 H) (hc : c = .strong \/ c = .fresh) (hk : q6Z d = some (b, ys)) : ∃ a xs, v = .ref a /\ (SqL D.K H a xs \/ SqT D.K H a xs) /\ RepL D (L2.wo (O ++ W) H) ys xs := by
 have hw : c ≠ .weak := by rcases hc with z | z <;> (rw [z]; intro q; cases q)
 unfold q6Z at hk
 split at hk
 ·cases hk
  obtain ⟨a, xs, e1, e2, e3⟩ := g.items hd hw
  exact ⟨a, xs, e1, .inl (SqL.of e2), e3⟩
 ·cases hk
  obtain ⟨a, xs, e1, e2, e3⟩ := g.itemsT hd hw
  exact ⟨a, xs, e1, .inr e2, e3⟩
 ·cases hk
theorem q5v {ts : List Expr} {k : Nat} {p : Pos} {v : Expr} {env : Env} (h : (q2M v).isNone = true) : swappedStores [.Tuple ts k p] v env = pure none := by
 cases v <;> first | rfl | cases h
theorem q9E {ts : List Expr} {kk : Nat} {tp : Pos} {is : List Nat} (hg : PG X (.Tuple ts kk tp) (gSeq X.K is.length (q4D is))) (he : ∀ q, ra = some q -> PE X e (dE X.D E δ q)) (hc : q3z e = false) (ht : (q2M e).isNone = true)
  (h : (Re.thnS δ ra λ d c => if c = .strong \/ c = .fresh then (match q6Z d with
   | some (_, ds) => (q2Q δ is ds).map Out.nx
   | none => none) else none) = some o) : PS X (.Assign [.Tuple ts kk tp] e pos) (dS X.D E δ o) := by
 have C := λ t (hA : PE X e t) => z0p (pos := pos) hA hg (by show swapsWith e (some (.Tuple ts kk tp)) pos.line X.env = pure false; exact q1X hc) (q5v ht) rfl
 cases hra : ra with
 | none => rw [hra] at h; cases h
 | some q =>
  rw [hra] at h
  have A := he q hra
  cases q with
  | ex c =>
   cases h
   exact (C _ A).weak λ Dn σ H ⟨H0, O, W, R, fr, fo, sm, k⟩ => ⟨O, W, R, q4u (Q := λ x H1 => gSeq X.K is.length (q4D is) x σ H1 Dn.nx) R fr sm k⟩
  | ok d cl =>
   have h' : (if cl = .strong \/ cl = .fresh then (match q6Z d with
    | some (_, ds) => (q2Q δ is ds).map Out.nx
    | none => none) else none) = some o := h
   split at h'
   ·rename_i hcl
    split at h'
    ·rename_i b ds hk
     obtain ⟨δ', q1, q2⟩ := Option.map_eq_some_iff.mp h'
     subst q2
     exact (C _ A).weak λ Dn σ H ⟨H0, O, W, R, fr, fo, sm, k⟩ => ⟨O, W, R, λ v H1 s1 g => by
      obtain ⟨a2, xs2, f1, f2, f3⟩ := g.seq (R.hid.mono s1) hcl hk
      exact ⟨a2, xs2, f1, f2, by rw [f3.length, (q1B q1).1], q4p (R.mono s1) f3 q1 λ σ' R' => k σ' H1 W R' fr (sm.trans s1)⟩⟩
    ·cases h'
   ·cases h'
end
end L2
end
section
namespace L2
open PySem PySem.Spec PyProof.Rows
theorem PSs.any {X : Cx} {body : List Stmt} {ι : Sort _} {t : ι -> TS} (h : ∀ k, PSs X body (t k)) : PSs X body (λ D σ H => ∃ k, t k D σ H) := λ pins s σ H D I ⟨k, q⟩ => h k pins s σ H D I q
structure Lp (H0 H1 : Hp) (O W : List Addr) : Prop where
 out : ∀ {H : Hp}, Same (L2.wo W H1) H -> Same H0 H
 outW : ∀ {a : Addr}, L2.wo W H1 a = none -> H0 a = none
 in1 : ∀ a ∈ W, L2.wo W H1 a = none
 in2 : ∀ a ∈ O, L2.wo W H1 a ≠ none
 wsame : ∀ {H : Hp}, Same (L2.wo W H1) H -> Same (L2.wo (O ++ W) H1) (L2.wo (O ++ W) H)
theorem Lp.mk' {H0 H1 : Hp} {O W : List Addr} (fr : ∀ a ∈ W, H0 a = none) (fo : ∀ a ∈ O, H0 a ≠ none) (sm : Same H0 H1) : Lp H0 H1 O W where
 out := λ {H} s b u e => s b u (by
  rw [q0t λ z => by rw [fr b z] at e; cases e]
  exact sm b u e)
 outW := λ {a} q => by
  by_cases z : a ∈ W
  ·exact fr a z
  ·rw [q0t z] at q; exact sm.free q
 in1 := λ a ha => z2o ha
 in2 := λ a ha => by
  rw [q0t λ z => fo a ha (fr a z)]
  intro q
  exact fo a ha (sm.free q)
 wsame := λ {H} s b u e => by
  obtain ⟨hb, e⟩ := q0W e
  rw [q0t hb]
  exact s b u (by rw [q0t λ z => hb (List.mem_append_right _ z)]; exact e)
theorem Lp.gotR {H0 H1 : Hp} {O W : List Addr} {D : Dm} {H : Hp} {d : DV} {fr : Bool} {v : V} (L : Lp H0 H1 O W) (g : GotR D O (L2.wo W H1) H d fr v) : GotR D O H0 H d fr v := by
 cases fr with
 | false => exact g
 | true =>
  obtain ⟨p, xs, ds, e1, e2, e3, e4, e5⟩ := g
  exact ⟨p, xs, ds, e1, e2, L.outW e3, e4, e5⟩
theorem Lp.gotT {H0 H1 : Hp} {O W : List Addr} {D : Dm} {H : Hp} {d : DV} {v : V} (L : Lp H0 H1 O W) (g : GotT D O (L2.wo W H1) H d v) : GotT D O H0 H d v := by
 rcases g with ⟨t, ts, p, xs, ds, es, e1, e2, e0, e3, e4, e5, e6⟩ | ⟨xs, e1, e2⟩
 ·exact .inl ⟨t, ts, p, xs, ds, es, e1, e2, e0, L.outW e3, e4, e5, e6⟩
 ·exact .inr ⟨xs, e1, e2.since λ a ha => L.outW ha⟩
section
variable {X : Cx} {E : St -> XK} {δ : List Sv} {tgE iter c : Expr} {body : List Stmt} {o : Out} {pos : Pos} {tg : Tg} {ri : Option Ri} {evB : List Sv -> Option Out} {evC : List Sv -> Option Rt}
theorem z1i (hp : PassesOwn (model X.prog X.w) X.A X.env X.xe) (hc : X.calm = true) (hi : ∀ q, ri = some q -> PI X tgE iter (dI X.D E δ q)) (hG : PG X tgE (gT X.K tg)) (hb : ∀ δ' o, evB δ' = some o -> PSs X body (dS X.D E δ' o)) (hset : q2N iter = false)
  (h : (Ri.thnS δ ri λ ds c => if c = .strong \/ c = .fresh then q2w tg evB ds δ else none) = some o) : PS X (.For tgE iter body [] pos) (dS X.D E δ o) := by
 have B : PSs X body (λ D σ H => ∃ k : { p : List Sv × Out // evB p.1 = some p.2 }, dS X.D E k.1.1 k.1.2 D σ H) := PSs.any λ k => hb k.1.1 k.1.2 k.2
 cases hri : ri with
 | none => rw [hri] at h; cases h
 | some q =>
  rw [hri] at h
  have A := hi q hri
  cases q with
  | ex c => cases h; exact (z0e hp hc A hG B (q4W hset)).weak λ Dn σ H ⟨H0, O, W, R, fr, fo, sm, k⟩ => ⟨O, W, R, λ H' C m s => k σ H' W C m (R.mono s) fr (sm.trans s)⟩
  | ok ds c =>
   have h' : (if c = .strong \/ c = .fresh then q2w tg evB ds δ else none) = some o := h
   split at h'
   ·rename_i m
    refine (z0e hp hc A hG B (q4W hset)).weak λ Dn σ H ⟨H0, O, W, R, fr, fo, sm, k⟩ => ⟨O, W, R, λ J H1 s1 w => ?_⟩
    have R1 := R.mono s1
    have L := Lp.mk' fr fo (sm.trans s1)
    have w : Wk X.D J ds (O ++ W) (O ++ W) H1 := by
     rcases m with m | m <;> subst m <;> exact w
    refine ⟨λ i n σ H => n = ds.length - i /\ i <= ds.length /\ ∃ δi W', q2w tg evB (ds.drop i) δi = some o /\ RSt X.D H σ δi O W' /\ (∀ a ∈ W', L2.wo W H1 a = none) /\ Same (L2.wo W H1) H,
     ⟨ds.length, rfl, Nat.zero_le _, δ, W, h', R1, L.in1, q1y⟩, ?_⟩
    rintro i n σ2 H2 ⟨rfl, hi, δi, W2, hgo, R2, b1, b2⟩
    by_cases hlt : i < ds.length
    ·refine .inr ⟨w.go i H2 (L.wsame b2) hlt, λ σ H => ∃ δi W', q2w tg evB (ds.drop (i + 1)) δi = some o /\ RSt X.D H σ δi O W' /\ (∀ a ∈ W', L2.wo W H1 a = none) /\ Same (L2.wo W H1) H,
      λ σ' H' q => ⟨ds.length - (i + 1), by omega, rfl, hlt, q⟩, λ x H3 y => ?_⟩
     have y1 := w.same i H2 x H3 y
     have y3 : Rep X.D (L2.wo (O ++ W2) H3) ds[i] x := w.yld i H2 x H3 _ (O ++ W2) (L.wsame b2) (L.wsame b2) y (List.getElem?_eq_getElem hlt) λ a ha => ⟨R2.hid.ot a ha, by
      rcases List.mem_append.mp ha with z | z
      ·exact .inl (List.mem_append_left _ z)
      ·have q := b1 a z
       by_cases hw : a ∈ W
       ·exact .inl (List.mem_append_right _ hw)
       ·rw [q0t hw] at q; exact .inr q⟩
     rw [List.drop_eq_getElem_cons hlt] at hgo
     unfold q2w at hgo
     split at hgo
     ·cases hgo
     ·rename_i δ1 hb1
      refine q6h (R2.mono y1) y3 hb1 λ σ3 R3 => ?_
      split at hgo
      ·rename_i δ2 hev
       exact ⟨⟨⟨δ1, .nx δ2⟩, hev⟩, L2.wo W H1, O, W2, R3, b1, L.in2, b2.trans y1, λ σ' H' W' R' fr' sm' => ⟨δ2, W', hgo, R', fr', sm'⟩⟩
      ·rename_i hne
       refine ⟨⟨⟨δ1, o⟩, hgo⟩, L2.wo W H1, O, W2, R3, b1, L.in2, b2.trans y1, ?_⟩
       cases o with
       | nx δ2 => exact absurd hgo (hne δ2)
       | rt d fr' => exact λ v H' s' g => k v H' (L.out s') (L.gotR g)
       | rtt d => exact λ v H' s' g => k v H' (L.out s') (L.gotT g)
       | ex c' δ' => exact λ σ' H' W' C m R' fr' sm' => k σ' H' W' C m R' (λ a ha => L.outW (fr' a ha)) (L.out sm')
    ·have e : i = ds.length := by omega
     subst e
     rw [List.drop_length] at hgo
     cases hgo
     exact .inl ⟨w.stop H2 (L.wsame b2), k σ2 H2 W2 R2 (λ a ha => L.outW (b1 a ha)) (L.out b2)⟩
   ·cases h'
end
end L2
end
section
namespace L2
open PySem PySem.Spec PyProof.Rows
section
variable {X : Cx} {CX : CXT} {k : Nat} {f : Addr} {fd : FuncData} {ps ks : List Str} {sp : Sp} {E : St -> XK} {x : Str} {p pos : Pos} {e : Expr} {es : List Expr} {kws : List Keyword} {t tk : TA} {g : List Value -> List Value -> List Value} {gV : List V -> List V -> List V}
end
section
variable {X : Cx} {E : St -> XK} {δ : List Sv} {re : Re} {rs : Option Rs}
end
section
variable {X : Cx} {E : St -> XK} {δ : List Sv} {e : Expr} {es : List Expr} {pos p : Pos} {re : Re} {rs rs' : Option Rs} {k : Nat} {fa : Addr} {fd : FuncData} {ps : List Str} {x : Str}
noncomputable def q3E {α : Type} (n : Nat) (us ws : List α) : List α := if us.length + 1 = n /\ ws.length = 1 then us ++ ws else []
theorem q7G {n : Nat} {vs zs : List V} {us ws : List Value} (r : Vals vs us) (q : Vals zs ws) : Vals (q3E n vs zs) (q3E n us ws) := by
 unfold q3E
 rw [r.length, q.length]
 split
 ·exact r.append q
 ·exact .nil
end
end L2
end
section
namespace L2
open PySem PySem.Spec PyProof.Rows
noncomputable def z3r (K : PySem.W.Frag) (C : Addr) : Prop := ∃ B newId initId bmB, ExcBaseFacts B newId initId bmB /\ PySem.W.excIn K C bmB newId = true
structure XOne (K : PySem.W.Frag) (mg : Str -> Option Value) (G : Gs) (cl : List Str) (c : Str) (C : Addr) : Prop where
 mc : mg c = some (.ref C)
 ck : ClsK K C
 rk : z3r K C
 own : ∀ t ∈ cl, ∀ Ct, mg t = some (.ref Ct) -> PySem.W.kitOne K (.ref C) (.ref Ct) = some (q1I G c t) /\ (q1I G c t = true -> PySem.W.exmOne K (.ref C) (.ref Ct) = some true)
 blt : PySem.W.kitOne K (.ref C) (.type "ValueError") = some (q1I G c "ValueError")
structure XFacts (K : PySem.W.Frag) (mg : Str -> Option Value) (G : Gs) (cl : List Str) : Prop where
 one : ∀ c, (G.cls.lookup c).isSome = true -> ∃ C, XOne K mg G cl c C
 all : ∀ t ∈ cl, ∃ Ct, mg t = some (.ref Ct)
section
variable {X : Cx} {E : St -> XK} {δ : List Sv} {e : Expr} {pos p p' : Pos} {re : Re} {ra : Option Re} {G : Gs} {cl : List Str} {t : Str} {o : Out}
noncomputable def rIsx (X : Cx) : List V -> Hp -> VK -> Prop := λ xs H Q => ∃ (a C : Addr) (y : V) (c : Value) (b : Bool), xs = [.ref a, y] /\ H a = some (excO a (.ref C)) /\ ClsK X.K C /\ ((∃ Ct, y = .ref Ct /\ c = .ref Ct) \/ ∃ n, y = .ty n /\ c = .type n) /\ PySem.W.kitOne X.K (.ref C) c = some b /\ Q (.bl b) H
theorem q9Q : q1L X (.builtin "isinstance") (rIsx X) := by
 intro pins s σ H xs us Q I r h
 obtain ⟨a, C, y, c, b, rfl, ea, ck, hy, hk, q⟩ := h
 obtain ⟨u, w', rfl, ru, rw'⟩ := q6e r
 cases (show u = Value.ref a from ru)
 obtain ⟨⟨oe, vs, h1, h2, _⟩, _⟩ := (show q1K X.prog X.w H s.heap a (excO a (.ref C)) from I.hok a _ ea)
 have hw : w' = c := by
  rcases hy with ⟨Ct, rfl, rfl⟩ | ⟨n, rfl, rfl⟩
  ·exact rw'
  ·exact rw'
 subst hw
 exact z0K ck I.kIn ⟨oe, h1, h2⟩ hk λ tk => ⟨.bl b, H, I.tok tk, rfl, q⟩
theorem q4e : bootBuiltins "ValueError" = some (.type "ValueError") := by decide +kernel
theorem z1y (F : XFacts X.K X.mg G cl) (hg : Gl X "isinstance") (hm : X.mg "isinstance" = none) (hgt : Gl X t) (ht : (t ∈ cl /\ (t == ("__debug__" : Str)) = false) \/ (X.mg t = none /\ t = "ValueError"))
  (ha : ∀ q, ra = some q -> PE X e (dE X.D E δ q)) (hs : q0x e = false) (h : (Re.thn ra λ y _ => (isxD G y t).map λ k => .ok (.bl k) .strong) = some re) : PE X (.Call (.Name "isinstance" p) [e, .Name t p'] [] pos) (dE X.D E δ re) := by
 have T : ∃ (v : V) (c : Value), PE X (.Name t p') (tC v) /\ ((∃ Ct, v = .ref Ct /\ c = .ref Ct) \/ ∃ n, v = .ty n /\ c = .type n) /\ ∀ c' C, XOne X.K X.mg G cl c' C -> PySem.W.kitOne X.K (.ref C) c = some (q1I G c' t) := by
  rcases ht with ⟨h1, h2⟩ | ⟨h1, h2⟩
  ·obtain ⟨Ct, hC⟩ := F.all t h1
   exact ⟨.ref Ct, .ref Ct, q7V hgt hC rfl h2, .inl ⟨Ct, rfl, rfl⟩, λ c' C x => (x.own t h1 Ct hC).1⟩
  ·subst h2
   exact ⟨.ty "ValueError", .type "ValueError", q4Y hgt h1 q4e rfl (by decide +kernel) (by decide +kernel), .inr ⟨_, rfl, rfl⟩, λ c' C x => x.blt⟩
 obtain ⟨v, c, T, hv, hk⟩ := T
 have C := λ ta (hA : PE X e ta) => q3Q (p := p) (pos := pos) q9Q hg hm boot_isinstance (q0N hA (q0N T q2C) (q0j hs)) (by decide) (by decide) (q0j hs)
 cases hra : ra with
 | none => rw [hra] at h; cases h
 | some q =>
  rw [hra] at h
  have A := ha q hra
  cases q with
  | ex c => cases h; exact (C _ A).weak λ σ H Q ⟨O, W, R, p⟩ => ⟨O, W, R, p⟩
  | ok d dc =>
   obtain ⟨k, e1, e2⟩ := Option.map_eq_some_iff.mp (show ((isxD G d t).map λ k => Re.ok (.bl k) .strong) = some re from h)
   cases e2
   unfold isxD at e1
   split at e1
   ·rename_i c'
    split at e1
    ·rename_i hc
     cases e1
     obtain ⟨C0, x⟩ := F.one c' hc
     refine (C _ A).weak λ σ H Q ⟨O, W, R, p⟩ => ⟨O, W, R, λ v1 H1 s1 g1 => ?_⟩
     obtain ⟨a, C1, z1, z2, z3⟩ := q6i.mp (g1.all (R.hid.mono s1))
     rw [show C1 = Value.ref C0 from Option.some.inj (z2.symm.trans x.mc)] at z3
     exact ⟨a, C0, v, c, _, by rw [z1], z3, x.ck, hv, hk c' C0 x, p _ H1 s1 q3i⟩
    ·cases e1
   ·cases e1
theorem q8w {c : Str} {np cpos : Pos} (F : XFacts X.K X.mg G cl) (hc : X.calm = true) (hg : Gl X c) (hd : (c == ("__debug__" : Str)) = false) (hR : q3M X E) (ha : ∀ q, ra = some q -> PE X e (dE X.D E δ q)) (hs : q0x e = false)
  (h : (if (G.cls.lookup c).isSome then Re.thnS δ ra λ _ _ => some (.ex c δ) else none) = some o) : PS X (.Raise (some (.Call (.Name c np) [e] [] cpos)) none pos) (dS X.D E δ o) := by
 split at h
 ·rename_i hc'
  obtain ⟨C, x⟩ := F.one c hc'
  obtain ⟨B, newId, initId, bmB, FB, hx⟩ := x.rk
  cases hra : ra with
  | none => rw [hra] at h; cases h
  | some q =>
   rw [hra] at h
   have A := ha q hra
   have P := q9V (np := np) (cpos := cpos) (pos := pos) FB hc hg x.mc hx hR (q0N A q2C (q0j hs)) hd (q0j hs) rfl
   cases q with
   | ex c2 => cases h; exact P.weak λ Dn σ H ⟨H0, O, W, R, fr, fo, sm, k⟩ => ⟨O, W, R, q4u R fr sm k⟩
   | ok d dc => cases h; exact P.weak λ Dn σ H ⟨H0, O, W, R, fr, fo, sm, k⟩ => ⟨O, W, R, λ v H1 s1 g => ⟨by show 1 <= sizeLine; decide, k σ H1 W _ x.mc (R.mono s1) fr (sm.trans s1)⟩⟩
 ·cases h
theorem RSt.unset {D : Dm} {H : Hp} {σ : St} {O W : List Addr} (R : RSt D H σ δ O W) (i : Nat) : RSt D H (σ.set i none) (δ.set i .no) O W where
 val := λ j d h => by
  by_cases hj : j = i
  ·subst hj
   have hl : j < δ.length := by
    have := (List.getElem?_eq_some_iff.mp h).1
    rw [List.length_set] at this; exact this
   rw [List.getElem?_set_self hl] at h
   cases h
  ·rw [List.getElem?_set_ne (Ne.symm hj)] at h ⊢
   exact R.val j d h
 own := λ j d h => by
  by_cases hj : j = i
  ·subst hj
   have hl : j < δ.length := by
    have := (List.getElem?_eq_some_iff.mp h).1
    rw [List.length_set] at this; exact this
   rw [List.getElem?_set_self hl] at h
   cases h
  ·rw [List.getElem?_set_ne (Ne.symm hj)] at h ⊢
   exact R.own j d h
 inj := λ j k a d d' h1 h2 h3 h4 => by
  have ne : ∀ (j : Nat) d, (δ.set i .no)[j]? = some (.own d) -> j ≠ i := λ j d h z => by
   subst z
   have hl : j < δ.length := by
    have := (List.getElem?_eq_some_iff.mp h).1
    rw [List.length_set] at this; exact this
   rw [List.getElem?_set_self hl] at h
   cases h
  have nj := ne j d h1
  have nk := ne k d' h2
  rw [List.getElem?_set_ne (Ne.symm nj)] at h1 h3
  rw [List.getElem?_set_ne (Ne.symm nk)] at h2 h4
  exact R.inj j k a d d' h1 h2 h3 h4
 ot := λ j d h => by
  have nj := q0g h (by intro z; cases z)
  rw [List.getElem?_set_ne (Ne.symm nj)] at h ⊢
  obtain ⟨⟨t, ts, p, xs, ds, es, e0, e1, e2, e3, e4, e5, e6, e7⟩, u⟩ := R.ot j d h
  refine ⟨⟨t, ts, p, xs, ds, es, e0, e1, e2, e3, e4, e5, e6, λ k d2 q => ?_⟩, λ k d2 q => ?_⟩
  ·have nk := q0g q (by intro z; cases z)
   rw [List.getElem?_set_ne (Ne.symm nk)] at q ⊢
   exact e7 k d2 q
  ·have nk := q0g q (by intro z; cases z)
   rw [List.getElem?_set_ne (Ne.symm nk)] at q
   exact u k d2 q
 o2 := λ j d h => by
  have nj := q0g h (by intro z; cases z)
  rw [List.getElem?_set_ne (Ne.symm nj)] at h ⊢
  obtain ⟨⟨p, L, e0, e1, e2, e3⟩, u, n⟩ := R.o2 j d h
  refine ⟨⟨p, L, e0, e1, e2, λ k d2 a q q2 => ?_⟩, λ k d2 q => ?_, λ k d2 q => ?_⟩
  ·have nk := q0g q (by intro z; cases z)
   rw [List.getElem?_set_ne (Ne.symm nk)] at q q2
   exact e3 k d2 a q q2
  ·have nk := q0g q (by intro z; cases z)
   rw [List.getElem?_set_ne (Ne.symm nk)] at q
   exact u k d2 q
  ·have nk := q0g q (by intro z; cases z)
   rw [List.getElem?_set_ne (Ne.symm nk)] at q
   exact n k d2 q
 len := by rw [List.length_set, List.length_set]; exact R.len
 hid := R.hid
theorem z0B {body : List Stmt} {c n x : Str} {np hpos tp vp ap : Pos} {ie ic : Nat} {ob : Option Out} (F : XFacts X.K X.mg G cl) (hst : X.stack = X.env :: X.outer) (hfr : X.env.frame = some X.env.locals) (hex : X.ex = []) (hgl : Gl X c) (hc : c ∈ cl) (hd : (c == ("__debug__" : Str)) = false) (hN : X.N.Nodup) (hi : X.N[ie]? = some n) (hl : X.env.scope.names.lookup n = some .local)
  (hn1 : (n == ("__debug__" : Str)) = false) (hn2 : (n == ("__classdict__" : Str)) = false) (hi2 : X.N[ic]? = some x) (hx : Loc X.env.scope x) (hf : X.fn x = true \/ X.env.scope.names.lookup x = some .local)
  (hb : ∀ pins (E' : St -> Value -> Hp -> Prop) q, ob = some q -> PSs (X.tryIn pins E') body (dS X.D (λ σ C _ H => E' σ C H) δ q))
  (h : tryD G c ie ic ob = some o) :
  PS X (.Try body [.ExceptHandler (some (.Name c np)) (some n) [.Assign [.Name x tp] (.Name n vp) ap] hpos] [] [] pos) (dS X.D E δ o) := by
 obtain ⟨Ct, hCt⟩ := F.all c hc
 cases hob : ob with
 | none => rw [hob] at h; cases h
 | some q =>
  rw [hob] at h
  have S : ∀ ea, PSs (X.inExc ea) [.Assign [.Name x tp] (.Name n vp) ap] (tAsg (tVar ie) (q7k ic)) := λ ea => z1a (q6t (X := X.inExc ea) hN hi2 hx (q4q (X := X.inExc ea) hi (.inl hl) hn1 hn2) rfl hf)
  refine (z3D (i := ie) (cv := .ref Ct) (tb := λ E' => dS X.D (λ σ C _ H => E' σ C H) δ q) hst hfr hex hgl hCt hN hi hl (λ pins E' => hb pins E' q hob) S hd).weak λ Dn σ H ⟨H0, O, W, R, fr, fo, sm, k⟩ => ⟨H0, O, W, R, fr, fo, sm, ?_⟩
  cases q with
  | nx δ' => cases h; exact k
  | rt d f => cases h; exact k
  | rtt d => cases h; exact k
  | ex c' δ' =>
   have h' : (if (G.cls.lookup c').isSome /\ q1I G c' c /\ ie < δ'.length /\ ie ≠ ic then some (Out.nx ((δ'.set ic (.val (.exc c'))).set ie .no)) else none) = some o := h
   split at h'
   ·rename_i hh
    cases h'
    obtain ⟨hh1, hh2, hh3, hh4⟩ := hh
    obtain ⟨C0, xo⟩ := F.one c' hh1
    intro σ' H' W' C hm R' fr' sm'
    rw [show C = Value.ref C0 from Option.some.inj (hm.symm.trans xo.mc)]
    refine ⟨(xo.own c hc Ct hCt).2 hh2, λ ea hea => ?_⟩
    have hout : ea ∉ O ++ W' := R'.hid.newOut hea
    have R1 := R'.mono (q0w (o := excO ea (.ref C0)) hea)
    have rp : Rep X.D (L2.wo (O ++ W') (upd H' ea (excO ea (.ref C0)))) (.exc c') (.ref ea) := q6i.mpr ⟨ea, _, rfl, xo.mc, by rw [q0t hout]; exact q0Q⟩
    refine ⟨.ref ea, List.getElem?_set_self (by rw [R'.len]; exact hh3), ?_⟩
    refine k _ _ W' ?_ fr' (sm'.trans (q0w hea))
    have R2 := ((R1.setVal rp ie).setVal rp ic).unset ie
    rw [show ((δ'.set ie (Sv.val (.exc c'))).set ic (Sv.val (.exc c'))).set ie Sv.no = (δ'.set ic (Sv.val (.exc c'))).set ie Sv.no by rw [List.set_comm _ _ hh4, List.set_set]] at R2
    exact R2
   ·cases h'
end
end L2
end
section
namespace L2
open PySem PySem.Spec PyProof.Rows
noncomputable def q7z (K : PySem.W.Frag) (w : World) (mg : Str -> Option Value) (x : Str) (kvs : List (Str × Str)) : Prop :=
 ∃ a es n, mg x = some (.ref a) /\ K.lookup a = some ⟨.type "dict", none, .dict es n, #[]⟩ /\ PySem.W.KeysLit w.params es.toList /\ ∀ k v, kvs.lookup k = some v -> v.length <= sizeLine /\ ∃ t, PySem.W.nsIn K a k = some (some (.str v t))
noncomputable def DK (K : PySem.W.Frag) (D : Dm) (G : Gs) (f : Nat) (fd : FuncData) (ps : List Str) : Prop :=
 (∀ ds, G.dfl.lookup f = some ds -> ∃ us dvs, q2T K fd ps us /\ Vals dvs us /\ ∀ H, RepL D H ds dvs) /\ ∀ n, G.kws.lookup f = some n -> KBinds K fd ps [n] (q3E ps.length) (q3E ps.length)
structure Good (sg : Sg) (G : Gs) (F : Nat -> List DV -> Option Ou) (X : Cx) (E : St -> XK) : Prop where
 N : X.N = sg.N
 nd : X.N.Nodup
 vis : ∀ x, visB sg x = true -> Vis X.env.scope x
 glo : ∀ x, gloB sg x = true -> Gl X x
 loc : ∀ x, locB sg x = true -> Loc X.env.scope x /\ (X.fn x = true \/ X.env.scope.names.lookup x = some .local)
 lcl : ∀ x, sg.sc.lookup x = some .local -> X.env.scope.names.lookup x = some .local
 cel : ∀ x, (sg.sc.lookup x = some .cell \/ sg.sc.lookup x = some .free) -> X.env.scope.names.lookup x = some .cell \/ X.env.scope.names.lookup x = some .free
 calm : X.calm = true
 hu : X.A.units + 64 < cLine
 fns : ∀ f x, sg.fn[f]? = some x -> ∃ k fa fd ps, Room k X.A /\ X.mg x = some (.ref fa) /\ PySem.W.keepIn X.K (.ref fa) = true /\ q2T X.K fd ps [] /\ (∀ ds o, F f ds = some o -> ds.length = ps.length) /\
  FnOk X.prog X.w X.K X.mg X.base (CXx X.prog X.w X.base) k fa fd ps (spF X.D ps.length (F f)) /\ DK X.K X.D G f fd ps
 blt : ∀ x ∈ sg.bl, X.mg x = none
 pas : q3v (CXx X.prog X.w X.base) X E
 con : ∀ x d, G.con.lookup x = some d -> ∃ u v, X.mg x = some u /\ RelV v u /\ ∀ H, Rep X.D H d v
 own : sg.lp = true -> PassesOwn (model X.prog X.w) X.A X.env X.xe
 xf : XFacts X.K X.mg G sg.cl
 st : sg.top = true -> X.stack = X.env :: X.outer /\ X.env.frame = some X.env.locals /\ X.ex = [] /\ q3M X E
 dcs : ∀ x kvs, G.dcs.lookup x = some kvs -> q7z X.K X.w X.mg x kvs
 hun : G.hun = true -> ∃ k fa fd ps hf, Room k X.A /\ X.mg q1l = some (.ref fa) /\ PySem.W.keepIn X.K (.ref fa) = true /\ q2T X.K fd ps [] /\ (∀ d l, F q2D [d, .lst l] = (hf d l).map λ r => .v r.1 false) /\ FnOk X.prog X.w X.K X.mg X.base (CXx X.prog X.w X.base) k fa fd ps (spH X.D hf)
theorem q2e : ∀ {l : List Str}, q3Y l = true -> l.Nodup
 | [], _ => List.nodup_nil
 | x :: r, h => by
  unfold q3Y at h
  rw [Bool.and_eq_true] at h
  refine List.nodup_cons.mpr ⟨λ z => ?_, q2e h.2⟩
  have := h.1
  rw [List.contains_iff_mem.mpr z] at this
  cases this
section
variable {sg : Sg} {G : Gs} {F : Nat -> List DV -> Option Ou} {X : Cx} {E : St -> XK} {tg : Tg} {sc : Scope} {N' : List Str} {fr : List (Option Nat)}
theorem q1F (g : Good sg G F X E) (h : q2X sg N' fr sc tg = true) : CompScope X.N N' sc X.env.scope fr /\ (∀ (j k i : Nat), fr[j]? = some (some i) -> fr[k]? = some (some i) -> j = k) /\ ∀ i ∈ q2W tg, fr[i]? = some none := by
 unfold q2X at h
 simp only [Bool.and_eq_true, List.all_eq_true, beq_iff_eq] at h
 obtain ⟨⟨⟨⟨⟨⟨h0, h1⟩, h2⟩, h3⟩, h4⟩, h5⟩, h6⟩ := h
 have h5' : ∀ (j i : Nat), fr[j]? = some (some i) -> ∃ x, N'[j]? = some x /\ sg.N[i]? = some x /\ (x, NameKind.free) ∈ sc.names := λ j i e => by
  have hj : j < fr.length := (List.getElem?_eq_some_iff.mp e).1
  have hj' : j < N'.length := by rw [← h4]; exact hj
  have hz : (some i, N'[j]) ∈ fr.zip N' := by
   refine List.mem_of_getElem? (i := j) ?_
   rw [List.getElem?_zip_eq_some]
   exact ⟨e, List.getElem?_eq_getElem hj'⟩
  have q := h5 _ hz
  simp only [Bool.and_eq_true, beq_iff_eq, List.contains_iff_mem] at q
  exact ⟨_, List.getElem?_eq_getElem hj', q.1, q.2⟩
 refine ⟨⟨h1, q2e h2, q2e h3, h4, λ j i e => ?_, λ y hy hk => ?_⟩, λ j k i e1 e2 => ?_, h0⟩
 ·obtain ⟨x, a, b, c⟩ := h5' j i e
  exact ⟨x, a, by rw [g.N]; exact b, c⟩
 ·have q := h6 y hy
  rw [if_pos hk] at q
  simp only [Bool.or_eq_true, beq_iff_eq] at q
  exact g.cel _ q
 ·obtain ⟨x, a, b, _⟩ := h5' j i e1
  obtain ⟨x', a', b', _⟩ := h5' k i e2
  rw [b] at b'; cases b'
  exact q3H (q2e h2) a a'
theorem q1J (g : Good sg G F X E) (h : q2X sg N' fr sc tg = true) (C : Addr) (cells : List (Str × Addr)) (s₂ : Shared) (H₂ : Hp) (fp : List Addr) : Good ⟨N', sc.names, sg.fn, sg.bl, sg.cl, false, true⟩ G F (q0A X sc N' C cells s₂ H₂ fp) E0s := by
 obtain ⟨S, _, _⟩ := q1F g h
 have look : ∀ x, (q0A X sc N' C cells s₂ H₂ fp).env.scope.names.lookup x = (sc.names.lookup x).map λ k => if (k == NameKind.free && X.env.scope.kind == .function && X.env.kindOf x == some .cell) = true then NameKind.cell else k := λ x => q1T
 have one : ∀ x k, sc.names.lookup x = some k -> k ≠ .free -> (q0A X sc N' C cells s₂ H₂ fp).env.scope.names.lookup x = some k := λ x k e hk => by
  rw [look, e, Option.map_some, if_neg]
  intro z
  simp only [Bool.and_eq_true, beq_iff_eq] at z
  exact hk z.1.1
 have two : ∀ x, sc.names.lookup x = some .free -> (q0A X sc N' C cells s₂ H₂ fp).env.scope.names.lookup x = some .cell \/ (q0A X sc N' C cells s₂ H₂ fp).env.scope.names.lookup x = some .free := λ x e => by
  rw [look, e, Option.map_some]
  split
  ·exact .inl rfl
  ·exact .inr rfl
 refine ⟨rfl, S.nd, λ x hx => ?_, λ x hx => ?_, λ x hx => ?_, λ x hx => one x _ hx (by intro z; cases z), λ x hx => ?_, g.calm, g.hu, g.fns, g.blt, ?_, g.con, λ _ => .never, g.xf, (λ z => nomatch z), g.dcs, g.hun⟩
 ·unfold visB at hx
  simp only [Bool.or_eq_true, beq_iff_eq] at hx
  rcases hx with (hx | hx) | hx
  ·exact .inl (one x _ hx (by intro z; cases z))
  ·exact .inr (.inl (one x _ hx (by intro z; cases z)))
  ·exact .inr (two x hx)
 ·unfold gloB at hx
  rw [beq_iff_eq] at hx
  exact one x _ hx (by intro z; cases z)
 ·unfold locB at hx
  simp only [Bool.or_eq_true, beq_iff_eq] at hx
  rcases hx with hx | hx
  ·exact ⟨.inl (one x _ hx (by intro z; cases z)), .inr (one x _ hx (by intro z; cases z))⟩
  ·exact ⟨.inr (one x _ hx (by intro z; cases z)), .inl (by show (sc.names.lookup x == some .cell) = true; rw [hx]; rfl)⟩
 ·rcases hx with hx | hx
  ·exact .inl (one x _ hx (by intro z; cases z))
  ·exact two x hx
 ·intro pins σ H s e s' I z
  obtain ⟨_, _, _, _, _, _, _, _, _, _, q⟩ := z
  exact q.elim
theorem q3q (g : Good sg G F X E) {i : Nat} {x : Str} (h : q6k sg i x = true) : X.N[i]? = some x /\ Vis X.env.scope x /\ (x == ("__debug__" : Str)) = false /\ (x == ("__classdict__" : Str)) = false := by
 unfold q6k at h
 simp only [Bool.and_eq_true, beq_iff_eq, bne_iff_ne, ne_eq] at h
 obtain ⟨⟨⟨h1, h2⟩, h3⟩, h4⟩ := h
 exact ⟨by rw [g.N]; exact h1, g.vis x h2, beq_eq_false_iff_ne.mpr h3, beq_eq_false_iff_ne.mpr h4⟩
theorem q6B (g : Good sg G F X E) {x : Str} {f : Expr} (h : bltB sg x f = true) : (∃ p, f = .Name x p) /\ Gl X x /\ X.mg x = none := by
 unfold bltB at h
 simp only [Bool.and_eq_true, beq_iff_eq, List.contains_iff_mem] at h
 obtain ⟨⟨h1, h2⟩, h3⟩ := h
 exact ⟨q0p h1, g.glo x h2, g.blt x h3⟩
theorem q9O (g : Good sg G F X E) (pins : List (Addr × Obj)) (E' : St -> Value -> Hp -> Prop) : Good ⟨sg.N, sg.sc, sg.fn, sg.bl, sg.cl, false, false⟩ G F (X.tryIn pins E') (λ σ C _ H => E' σ C H) :=
 ⟨g.N, g.nd, g.vis, g.glo, g.loc, g.lcl, g.cel, g.calm, g.hu, g.fns, g.blt, q7b, g.con, (λ z => nomatch z), g.xf, (λ z => nomatch z), g.dcs, g.hun⟩
theorem q4b (g : Good sg G F X E) : ∀ (is : List Nat) (es : List Expr), es.length = is.length -> ((is.zip es).all λ p => match q1c p.2 with | some x => sg.N[p.1]? == some x && locB sg x | none => false) = true ->
  PGs X es (q4D is) /\ (assignEach es X.env).length = is.length /\ (assignEach es X.env).findIdx? (·.1) = none
 | [], [], _, _ => ⟨z0J, rfl, rfl⟩
 | [], _ :: _, h, _ => by cases h
 | _ :: _, [], h, _ => by cases h
 | i :: is, e :: es, hl, h => by
  rw [List.zip_cons_cons, List.all_cons, Bool.and_eq_true] at h
  obtain ⟨h1, h2⟩ := h
  obtain ⟨A, B, C⟩ := q4b g is es (by simpa using hl) h2
  split at h1
  ·rename_i x q
   obtain ⟨p, rfl⟩ := q0p q
   simp only [Bool.and_eq_true, beq_iff_eq] at h1
   have l := g.loc x h1.2
   refine ⟨q9b (q8I g.nd (by rw [g.N]; exact h1.1) l.1 l.2) A rfl, ?_, ?_⟩
   ·show (assignEach es X.env).length + 1 = is.length + 1
    rw [B]
   ·show ((false, assign (.Name x p) X.env) :: assignEach es X.env).findIdx? (·.1) = none
    rw [List.findIdx?_cons, C]; rfl
  ·cases h1
theorem q7r (g : Good sg G F X E) {tgE : Expr} (h : tgOk sg tg tgE = true) : PG X tgE (gT X.K tg) := by
 cases tg with
 | one i =>
  unfold tgOk at h
  dsimp only at h
  split at h
  ·rename_i x q
   obtain ⟨p, rfl⟩ := q0p q
   simp only [Bool.and_eq_true, beq_iff_eq] at h
   have l := g.loc x h.2
   exact q8I g.nd (by rw [g.N]; exact h.1) l.1 l.2
  ·cases h
 | many is =>
  unfold tgOk at h
  dsimp only at h
  split at h
  ·rename_i es q
   obtain ⟨k, p, rfl⟩ := q2L q
   rw [Bool.and_eq_true, Bool.and_eq_true, beq_iff_eq] at h
   obtain ⟨A, B, C⟩ := q4b g is es h.1.1 h.2
   exact z0i g.calm A B C
  ·cases h
end
section
variable (G : Gs) (F : Nat -> List DV -> Option Ou)
noncomputable def SE (m : ME) : Prop := ∀ {sg : Sg} {X : Cx} {E : St -> XK} {e : Expr} {δ : List Sv} {r : Re}, Good sg G F X E -> corE sg false m e = true -> evE G F m δ = some r -> PE X e (dE X.D E δ r)
noncomputable def ST (m : ME) : Prop := ∀ {sg : Sg} {X : Cx} {E : St -> XK} {e : Expr} {δ : List Sv} {r : Rt}, Good sg G F X E -> corE sg false m e = true -> tstD (evE G F m δ) = some r -> PT X e (dT X.D E δ r)
noncomputable def SI (m : ME) : Prop := ∀ {sg : Sg} {X : Cx} {E : St -> XK} {e tg : Expr} {δ : List Sv} {r : Ri}, Good sg G F X E -> corE sg true m e = true -> (isZp m = true -> (q2M tg).isSome = true) -> q1U (evE G F m δ) = some r -> PI X tg e (dI X.D E δ r)
noncomputable def SEs (ms : List ME) : Prop := ∀ {sg : Sg} {X : Cx} {E : St -> XK} {es : List Expr} {δ : List Sv} {r : Rs}, Good sg G F X E -> q1i sg ms es = true -> evEs G F ms δ = some r -> PA X es (dA X.D E δ r)
noncomputable def SAnd (ms : List ME) : Prop := ∀ {sg : Sg} {X : Cx} {E : St -> XK} {es : List Expr} {δ : List Sv} {pos : Pos}, Good sg G F X E -> q1i sg ms es = true ->
 (∀ r, q2x G F ms δ = some r -> PE X (.BoolOp .And es pos) (dE X.D E δ r)) /\ (∀ r, tstD (q2x G F ms δ) = some r -> PW X (.BoolOp .And es pos) (dT X.D E δ r))
noncomputable def SOr (ms : List ME) : Prop := ∀ {sg : Sg} {X : Cx} {E : St -> XK} {es : List Expr} {δ : List Sv} {pos : Pos}, Good sg G F X E -> q1i sg ms es = true ->
 (∀ r, evOr G F ms δ = some r -> PE X (.BoolOp .Or es pos) (dE X.D E δ r)) /\ (∀ r, tstD (evOr G F ms δ) = some r -> PW X (.BoolOp .Or es pos) (dT X.D E δ r))
noncomputable def S1 (m : ME) : Prop := SE G F m /\ ST G F m /\ SI G F m
end
section
variable {G : Gs} {F : Nat -> List DV -> Option Ou}
theorem S1.of {m : ME} (h : SE G F m) (hw : ∀ sg e, corE sg true m e = corE sg false m e) (ht : ∀ sg e env, corE sg false m e = true -> ∀ whole, isTrue e env whole = (do let v ← whole; standAt e.pos; holding [v] (truthy v))) : S1 G F m :=
 ⟨h, λ {sg X E e δ r} g hc q => q8f (λ z hz => h g hc hz) (ht sg e X.env hc) q, λ {sg X E e tg δ r} g hc _ q => q6G (λ z hz => h g (by rw [← hw]; exact hc) hz) q⟩
theorem S1.of2 {m : ME} (h : SE G F m) (ht : ST G F m) (hw : ∀ sg e, corE sg true m e = corE sg false m e) : S1 G F m :=
 ⟨h, ht, λ {sg X E e tg δ r} g hc _ q => q6G (λ z hz => h g (by rw [← hw]; exact hc) hz) q⟩
end
end L2
end
section
namespace L2
open PySem PySem.Spec PyProof.Rows
noncomputable def z2v : Expr -> Bool
 | .UnaryOp .Not _ _ => false | .BoolOp _ _ _ => false | .IfExp _ _ _ _ => false | .Compare _ _ _ _ => false
 | _ => true
theorem q0l {e : Expr} (h : z2v e = true) (env : Env) : ∀ whole, isTrue e env whole = (do let v ← whole; standAt e.pos; holding [v] (truthy v)) := by
 cases e with
 | UnaryOp o a p => cases o <;> first | (intro _; rfl) | cases h
 | BoolOp _ _ _ => cases h
 | IfExp _ _ _ _ => cases h
 | Compare _ _ _ _ => cases h
 | _ => intro _; rfl
section
variable {G : Gs} {F : Nat -> List DV -> Option Ou} {a b c : ME}
theorem z4V {i : Nat} : S1 G F (.var i) := by
 refine .of (λ {sg X E e δ r} g hc h => ?_) (λ _ _ => rfl) (λ sg e env hc => ?_)
 ·unfold corE at hc
  split at hc
  ·rename_i x q
   obtain ⟨p, rfl⟩ := q0p q
   obtain ⟨h1, h2, h3, h4⟩ := q3q g hc
   exact z1m h1 h2 h3 h4 (by unfold evE at h; exact h)
  ·cases hc
 ·unfold corE at hc
  split at hc
  ·rename_i x q
   obtain ⟨p, rfl⟩ := q0p q
   exact q0l rfl env
  ·cases hc
theorem q4T {m : ME} {k : Const} {d : DV} (hm : ∀ sg w e, corE sg w m e = true -> q2S e = some k) (he : ∀ δ, evE G F m δ = some (.ok d .strong)) (hw : ∀ sg e, corE sg true m e = corE sg false m e)
  (hp : ∀ {X : Cx} {E : St -> XK} {δ : List Sv} {j : Nat} {pos : Pos} sg e, corE sg false m e = true -> PE X (.Constant k j pos) (dE X.D E δ (.ok d .strong))) : S1 G F m := by
 refine .of (λ {sg X E e δ r} g hc h => ?_) hw (λ sg e env hc => ?_)
 ·obtain ⟨j, p, rfl⟩ := q4G (hm sg false e hc)
  rw [he] at h; cases h
  exact hp sg _ hc
 ·obtain ⟨j, p, rfl⟩ := q4G (hm sg false e hc)
  exact q0l rfl env
theorem z4d {i : Int} : S1 G F (.int i) := q4T (λ sg w e h => by unfold corE at h; exact beq_iff_eq.mp h) (λ δ => by unfold evE; rfl) (λ _ _ => rfl) λ _ _ _ => z0R
theorem s_bl {i : Bool} : S1 G F (.bl i) := q4T (λ sg w e h => by unfold corE at h; exact beq_iff_eq.mp h) (λ δ => by unfold evE; rfl) (λ _ _ => rfl) λ _ _ _ => z3w
theorem z4l : S1 G F .non := q4T (λ sg w e h => by unfold corE at h; exact beq_iff_eq.mp h) (λ δ => by unfold evE; rfl) (λ _ _ => rfl) λ _ _ _ => z1T
theorem z4z {i : Str} : S1 G F (.str i) := q4T (λ sg w e h => by unfold corE at h; rw [Bool.and_eq_true] at h; exact beq_iff_eq.mp h.1) (λ δ => by unfold evE; rfl) (λ _ _ => rfl) λ _ _ h => by
 unfold corE at h
 rw [Bool.and_eq_true, decide_eq_true_eq] at h
 exact z0F (Nat.le_trans h.2 (by decide))
theorem z4Y {x : Str} : S1 G F (.glb x) := by
 refine .of (λ {sg X E e δ r} g hc h => ?_) (λ _ _ => rfl) (λ sg e env hc => ?_)
 ·unfold corE at hc
  simp only [Bool.and_eq_true, beq_iff_eq, bne_iff_ne, ne_eq] at hc
  obtain ⟨p, rfl⟩ := q0p hc.1.1
  unfold evE at h
  obtain ⟨d, h1, h2⟩ := Option.map_eq_some_iff.mp h
  cases h2
  obtain ⟨u, v, m, rv, rp⟩ := g.con x d h1
  exact (q7V (g.glo x hc.1.2) m rv (beq_eq_false_iff_ne.mpr hc.2)).weak λ σ H Q ⟨O, W, R, p⟩ => p v H (Same.refl H) (rp _)
 ·unfold corE at hc
  simp only [Bool.and_eq_true, beq_iff_eq] at hc
  obtain ⟨p, rfl⟩ := q0p hc.1.1
  exact q0l rfl env
theorem z4o {op : Operator} (ha : S1 G F a) (hb : S1 G F b) : S1 G F (.bin op a b) := by
 refine .of (λ {sg X E e δ r} g hc h => ?_) (λ _ _ => rfl) (λ sg e env hc => ?_)
 ·unfold corE at hc
  split at hc
  ·rename_i ea o eb q
   obtain ⟨p, rfl⟩ := q6A q
   simp only [Bool.and_eq_true, beq_iff_eq] at hc
   obtain ⟨⟨h1, h2⟩, h3⟩ := hc
   subst h1
   unfold evE at h
   exact z0A (λ z hz => ha.1 g h2 hz) (λ z hz => hb.1 g h3 hz) h
  ·cases hc
 ·unfold corE at hc
  split at hc
  ·rename_i q; obtain ⟨p, rfl⟩ := q6A q; exact q0l rfl env
  ·cases hc
theorem z4u (ha : S1 G F a) : S1 G F (.neg a) := by
 refine .of (λ {sg X E e δ r} g hc h => ?_) (λ _ _ => rfl) (λ sg e env hc => ?_)
 ·unfold corE at hc
  split at hc
  ·rename_i o ea q
   obtain ⟨p, rfl⟩ := q4N q
   simp only [Bool.and_eq_true, beq_iff_eq] at hc
   obtain ⟨h1, h2⟩ := hc
   subst h1
   unfold evE at h
   exact z1M (λ z hz => ha.1 g h2 hz) h
  ·cases hc
 ·unfold corE at hc
  split at hc
  ·rename_i q; obtain ⟨p, rfl⟩ := q4N q
   simp only [Bool.and_eq_true, beq_iff_eq] at hc
   obtain ⟨h1, h2⟩ := hc
   subst h1
   exact q0l rfl env
  ·cases hc
theorem z4q (ha : S1 G F a) : S1 G F (.not a) := by
 refine .of2 (λ {sg X E e δ r} g hc h => ?_) (λ {sg X E e δ r} g hc h => ?_) (λ _ _ => rfl)
 ·unfold corE at hc
  split at hc
  ·rename_i o ea q
   obtain ⟨p, rfl⟩ := q4N q
   simp only [Bool.and_eq_true, beq_iff_eq] at hc
   obtain ⟨h1, h2⟩ := hc
   subst h1
   unfold evE at h
   exact z1j (λ z hz => ha.1 g h2 hz) h
  ·cases hc
 ·unfold corE at hc
  split at hc
  ·rename_i o ea q
   obtain ⟨p, rfl⟩ := q4N q
   simp only [Bool.and_eq_true, beq_iff_eq] at hc
   obtain ⟨h1, h2⟩ := hc
   subst h1
   unfold evE at h
   exact q9j (λ z hz => ha.2.1 g h2 hz) h
  ·cases hc
theorem z3X {op : CmpOp} (ha : S1 G F a) (hb : S1 G F b) : S1 G F (.cmp op a b) := by
 refine .of2 (λ {sg X E e δ r} g hc h => ?_) (λ {sg X E e δ r} g hc h => ?_) (λ _ _ => rfl)
 ·unfold corE at hc
  split at hc
  ·rename_i ea o eb q
   obtain ⟨p, rfl⟩ := q3P q
   simp only [Bool.and_eq_true, beq_iff_eq, Bool.not_eq_true'] at hc
   obtain ⟨⟨⟨h1, h2⟩, h3⟩, h4⟩ := hc
   subst h1
   unfold evE at h
   exact z1V g.hu (λ z hz => ha.1 g h2 hz) (λ z hz => hb.1 g h3 hz) h4 h
  ·cases hc
 ·unfold corE at hc
  split at hc
  ·rename_i ea o eb q
   obtain ⟨p, rfl⟩ := q3P q
   simp only [Bool.and_eq_true, beq_iff_eq, Bool.not_eq_true'] at hc
   obtain ⟨⟨⟨h1, h2⟩, h3⟩, h4⟩ := hc
   subst h1
   unfold evE at h
   exact q9J g.hu (λ z hz => ha.1 g h2 hz) (λ z hz => hb.1 g h3 hz) h4 h
  ·cases hc
theorem z1H {op op' : CmpOp} (ha : S1 G F a) (hb : S1 G F b) (hcc : S1 G F c) : S1 G F (.chain op op' a b c) := by
 refine .of2 (λ {sg X E e δ r} g hc h => ?_) (λ {sg X E e δ r} g hc h => ?_) (λ _ _ => rfl)
 ·unfold corE at hc
  split at hc
  ·rename_i ea o o' eb ec q
   obtain ⟨p, rfl⟩ := q3P q
   simp only [Bool.and_eq_true, beq_iff_eq, Bool.not_eq_true'] at hc
   obtain ⟨⟨⟨⟨⟨h1, h1'⟩, h2⟩, h3⟩, h4⟩, h5⟩ := hc
   subst h1 h1'
   unfold evE at h
   exact q8c g.hu (λ z hz => ha.1 g h2 hz) (λ z hz => hb.1 g h3 hz) (λ z hz => hcc.1 g h4 hz) h5 h
  ·cases hc
 ·unfold corE at hc
  split at hc
  ·rename_i ea o o' eb ec q
   obtain ⟨p, rfl⟩ := q3P q
   simp only [Bool.and_eq_true, beq_iff_eq, Bool.not_eq_true'] at hc
   obtain ⟨⟨⟨⟨⟨h1, h1'⟩, h2⟩, h3⟩, h4⟩, h5⟩ := hc
   subst h1 h1'
   unfold evE at h
   exact q7a g.hu (λ z hz => ha.1 g h2 hz) (λ z hz => hb.1 g h3 hz) (λ z hz => hcc.1 g h4 hz) h5 h
  ·cases hc
theorem s_ix (ha : S1 G F a) (hb : S1 G F b) : S1 G F (.ix a b) := by
 refine .of (λ {sg X E e δ r} g hc h => ?_) (λ _ _ => rfl) (λ sg e env hc => ?_)
 ·unfold corE at hc
  split at hc
  ·rename_i ea eb q
   obtain ⟨p, rfl⟩ := q3a q
   simp only [Bool.and_eq_true, Bool.not_eq_true'] at hc
   obtain ⟨⟨h1, h2⟩, h3⟩ := hc
   unfold evE at h
   exact z2p (λ z hz => ha.1 g h1 hz) (λ z hz => hb.1 g h2 hz) h3 h
  ·cases hc
 ·unfold corE at hc
  split at hc
  ·rename_i q; obtain ⟨p, rfl⟩ := q3a q; exact q0l rfl env
  ·cases hc
theorem z4A (ha : S1 G F a) (hb : S1 G F b) : S1 G F (.slf a b) := by
 refine .of (λ {sg X E e δ r} g hc h => ?_) (λ _ _ => rfl) (λ sg e env hc => ?_)
 ·unfold corE at hc
  split at hc
  ·rename_i ea es q
   obtain ⟨p, rfl⟩ := q3a q
   split at hc
   ·rename_i q2
    obtain ⟨p2, rfl⟩ := q7m q2
    simp only [Bool.and_eq_true] at hc
    obtain ⟨h1, h2⟩ := hc
    unfold evE at h
    exact z1G (λ z hz => ha.1 g h1 hz) (λ z hz => hb.1 g h2 hz) h
   ·cases hc
  ·cases hc
 ·unfold corE at hc
  split at hc
  ·rename_i q; obtain ⟨p, rfl⟩ := q3a q; exact q0l rfl env
  ·cases hc
variable {ms : List ME}
theorem q4R : ∀ {sg : Sg} {ms : List ME} {es : List Expr}, q1i sg ms es = true -> es.any q0x = false
 | _, [], [], _ => rfl
 | _, [], _ :: _, h => by unfold q1i at h; cases h
 | _, _ :: _, [], h => by unfold q1i at h; cases h
 | sg, m :: ms, e :: es, h => by
  unfold q1i at h
  simp only [Bool.and_eq_true, Bool.not_eq_true'] at h
  rw [List.any_cons, h.1.2, q4R h.2]; rfl
theorem z4i (ha : SEs G F ms) : S1 G F (.lst ms) := by
 refine .of (λ {sg X E e δ r} g hc h => ?_) (λ _ _ => rfl) (λ sg e env hc => ?_)
 ·unfold corE at hc
  split at hc
  ·rename_i es q
   obtain ⟨p, rfl⟩ := q5L q
   unfold evE at h
   exact z1p (λ z hz => ha g hc hz) h
  ·cases hc
 ·unfold corE at hc
  split at hc
  ·rename_i q; obtain ⟨p, rfl⟩ := q5L q; exact q0l rfl env
  ·cases hc
theorem z4F (ha : SEs G F ms) : S1 G F (.tup ms) := by
 refine .of (λ {sg X E e δ r} g hc h => ?_) (λ _ _ => rfl) (λ sg e env hc => ?_)
 ·unfold corE at hc
  split at hc
  ·rename_i es q
   obtain ⟨k, p, rfl⟩ := q2L q
   unfold evE at h
   exact z0Z (λ z hz => ha g hc hz) h
  ·cases hc
 ·unfold corE at hc
  split at hc
  ·rename_i q; obtain ⟨k, p, rfl⟩ := q2L q; exact q0l rfl env
  ·cases hc
theorem z2E {f : Nat} (ha : SEs G F ms) : S1 G F (.call f ms) := by
 refine .of (λ {sg X E e δ r} g hc h => ?_) (λ _ _ => rfl) (λ sg e env hc => ?_)
 ·unfold corE at hc
  split at hc
  ·rename_i ef es pos q
   have := q0R q
   subst this
   rw [Bool.and_eq_true, Bool.and_eq_true] at hc
   obtain ⟨⟨h1, h2⟩, h3⟩ := hc
   split at h1
   ·rename_i x qx
    obtain ⟨p, rfl⟩ := q0p qx
    simp only [Bool.and_eq_true, beq_iff_eq, bne_iff_ne, ne_eq] at h1
    obtain ⟨k, fa, fd, ps, hr, hm, hk, hb, hl, fo, dk⟩ := g.fns f x h1.1.1
    cases es with
    | nil => cases h2
    | cons y ys =>
     have ns := q4R h3
     rw [List.any_cons, Bool.or_eq_false_iff] at ns
     unfold evE at h
     exact q9v fo hl hr (g.glo x h1.1.2) hm hk hb g.pas (λ z hz => ha g h3 hz) (beq_eq_false_iff_ne.mpr h1.2) ns.1 ns.2 h
   ·cases h1
  ·cases hc
 ·unfold corE at hc
  split at hc
  ·rename_i q; have := q0R q; subst this; exact q0l rfl env
  ·cases hc
theorem s_bi {f : Bi} (ha : SEs G F ms) : S1 G F (.bi f ms) := by
 refine .of (λ {sg X E e δ r} g hc h => ?_) (λ _ _ => rfl) (λ sg e env hc => ?_)
 ·unfold corE at hc
  split at hc
  ·rename_i ef es pos q
   have := q0R q
   subst this
   rw [Bool.and_eq_true, Bool.and_eq_true] at hc
   obtain ⟨⟨h1, h2⟩, h3⟩ := hc
   obtain ⟨⟨p, rfl⟩, hg, hm⟩ := q6B g h1
   unfold evE at h
   cases es with
   | nil => cases h2
   | cons y ys =>
    have go : q1i sg ms (y :: ys) = true -> (∀ q, evEs G F ms δ = some q -> PA X (y :: ys) (dA X.D E δ q)) /\ q0x y = false /\ ys.any q0x = false := λ z => by
     have ns := q4R z
     rw [List.any_cons, Bool.or_eq_false_iff] at ns
     exact ⟨λ w hw => ha g z hw, ns.1, ns.2⟩
    cases f with
    | len => obtain ⟨A, s1, s2⟩ := go h3; exact q7F z2R z1L hg hm boot_len (by decide) (by decide) A s1 s2 h
    | min => obtain ⟨A, s1, s2⟩ := go h3; exact q7F (z3d g.calm (by have := g.hu; omega)) z1E hg hm boot_min (by decide) (by decide) A s1 s2 h
    | max => obtain ⟨A, s1, s2⟩ := go h3; exact q7F (z3h g.calm) z1c hg hm boot_max (by decide) (by decide) A s1 s2 h
    | list => obtain ⟨A, s1, s2⟩ := go h3; exact q8K z1l q9y hg hm boot_list (by decide) (by decide) A s1 s2 h
    | tuple => obtain ⟨A, s1, s2⟩ := go h3; exact q8K q9u q7R hg hm boot_tuple (by decide) (by decide) A s1 s2 h
    | _ => cases h
  ·cases hc
 ·unfold corE at hc
  split at hc
  ·rename_i q; have := q0R q; subst this; exact q0l rfl env
  ·cases hc
theorem q3W {x : Str} (h : q1p.contains x = true) : ∃ t, q3D x = some t := by
 have key : ∀ x ∈ q1p, ∃ t, q3D x = some t := by
  intro x hx
  simp only [q1p, List.mem_cons, List.not_mem_nil, or_false] at hx
  rcases hx with rfl | rfl | rfl | rfl | rfl | rfl
  ·exact ⟨"int", by decide +kernel⟩
  ·exact ⟨"bool", by decide +kernel⟩
  ·exact ⟨"str", by decide +kernel⟩
  ·exact ⟨"list", by decide +kernel⟩
  ·exact ⟨"tuple", by decide +kernel⟩
  ·exact ⟨"dict", by decide +kernel⟩
 exact key x (List.contains_iff_mem.mp h)
theorem q2v : ∀ x ∈ q1p, x ≠ "__name__" /\ (x == ("__debug__" : Str)) = false := by
 intro x hx
 simp only [q1p, List.mem_cons, List.not_mem_nil, or_false] at hx
 rcases hx with rfl | rfl | rfl | rfl | rfl | rfl <;> exact ⟨by decide +kernel, by decide +kernel⟩
theorem z4p {t : Str} (ha : S1 G F a) : S1 G F (.isx a t) := by
 refine .of (λ {sg X E e δ r} g hc h => ?_) (λ _ _ => rfl) (λ sg e env hc => ?_)
 ·unfold corE at hc
  split at hc
  ·rename_i ef ea et pos q
   have := q0R q
   subst this
   simp only [Bool.and_eq_true, Bool.not_eq_true', beq_iff_eq, Bool.or_eq_true, List.contains_iff_mem, bne_iff_ne, ne_eq] at hc
   obtain ⟨⟨⟨⟨⟨⟨h1, h2⟩, h3⟩, h4⟩, h5⟩, h6⟩, h7⟩ := hc
   obtain ⟨⟨p, rfl⟩, hg, hm⟩ := q6B g h1
   obtain ⟨p', rfl⟩ := q0p h5
   unfold evE at h
   refine z1y g.xf hg hm (g.glo t h6) ?_ (λ z hz => ha.1 g h2 hz) h3 h
   rcases h7 with ⟨k1, k2⟩ | ⟨k1, k2⟩
   ·exact .inl ⟨k1, beq_eq_false_iff_ne.mpr k2⟩
   ·refine .inr ⟨g.blt t k1, ?_⟩
    simp only [q7I, List.mem_cons, List.not_mem_nil, or_false] at k2
    exact k2
  ·cases hc
 ·unfold corE at hc
  split at hc
  ·rename_i q
   have := q0R q
   subst this
   exact q0l rfl env
  ·cases hc
theorem z4B : S1 G F .dc0 := by
 refine .of (λ {sg X E e δ r} g hc h => ?_) (λ _ _ => rfl) (λ sg e env hc => ?_)
 ·unfold corE at hc
  split at hc
  ·unfold evE at h
   cases h
   exact z1Q
  ·cases hc
 ·unfold corE at hc
  split at hc
  ·exact q0l rfl env
  ·cases hc
theorem z4j {ts : List Str} (ha : S1 G F a) : S1 G F (.isi a ts) := by
 refine .of (λ {sg X E e δ r} g hc h => ?_) (λ _ _ => rfl) (λ sg e env hc => ?_)
 ·unfold corE at hc
  split at hc
  ·rename_i ef ea et pos q
   have := q0R q
   subst this
   simp only [Bool.and_eq_true, Bool.not_eq_true'] at hc
   obtain ⟨⟨⟨⟨h1, h2⟩, h3⟩, h4⟩, h5⟩ := hc
   obtain ⟨⟨p, rfl⟩, hg, hm⟩ := q6B g h1
   split at h5
   ·rename_i t
    simp only [Bool.and_eq_true, beq_iff_eq, List.contains_iff_mem] at h5
    obtain ⟨⟨⟨k1, k2⟩, k3⟩, k4⟩ := h5
    obtain ⟨p', rfl⟩ := q0p k1
    obtain ⟨T, hT⟩ := q3W (List.contains_iff_mem.mpr k4)
    obtain ⟨n1, n2⟩ := q2v t k4
    unfold evE at h
    exact z1Z hT hg hm (g.glo t k2) (g.blt t k3) n1 n2 (λ z hz => ha.1 g h2 hz) h3 h
   ·rename_i t u
    split at h5
    ·rename_i e1 e2 q2
     obtain ⟨kk, tp, rfl⟩ := q2L q2
     simp only [Bool.and_eq_true, beq_iff_eq, List.contains_iff_mem] at h5
     obtain ⟨⟨⟨⟨k1, k2⟩, k3⟩, k4⟩, ⟨⟨l1, l2⟩, l3⟩, l4⟩ := h5
     obtain ⟨p1, rfl⟩ := q0p k1
     obtain ⟨p2, rfl⟩ := q0p l1
     obtain ⟨T, hT⟩ := q3W (List.contains_iff_mem.mpr k4)
     obtain ⟨U, hU⟩ := q3W (List.contains_iff_mem.mpr l4)
     obtain ⟨n1, n2⟩ := q2v t k4
     obtain ⟨m1, m2⟩ := q2v u l4
     unfold evE at h
     refine q9B (kf := λ d => isiD G d [t, u]) hT hU hg hm (g.glo t k2) (g.blt t k3) n1 n2 (g.glo u l2) (g.blt u l3) m1 m2 (λ d k e1 => ?_) (λ z hz => ha.1 g h2 hz) h3 h
     have px : (q1p.contains t && q1p.contains u) = true := by rw [Bool.and_eq_true]; exact ⟨List.contains_iff_mem.mpr k4, List.contains_iff_mem.mpr l4⟩
     unfold isiD at e1
     cases d <;> first
      | (simp only [px, if_true] at e1; cases e1; exact ⟨_, rfl, rfl⟩)
      | cases e1
    ·cases h5
   ·cases h5
  ·cases hc
 ·unfold corE at hc
  split at hc
  ·rename_i q; have := q0R q; subst this; exact q0l rfl env
  ·cases hc
theorem q2r : ∀ {ms : List ME} {δ : List Sv} {l : List (DV × Cl)}, evEs G F ms δ = some (.ok l) -> l.length = ms.length
 | [], _, _, h => by unfold evEs at h; cases h; rfl
 | m :: ms, δ, l, h => by
  unfold evEs at h
  split at h
  ·cases h
  ·cases h
  ·split at h
   ·cases h
   ·cases h
   ·rename_i l' q
    cases h
    rw [List.length_cons, List.length_cons, q2r q]
theorem q3A : ∀ {sg : Sg} {ms : List ME} {es : List Expr}, q1i sg ms es = true -> ms.length = es.length
 | _, [], [], _ => rfl
 | _, [], _ :: _, h => by unfold q1i at h; cases h
 | _, _ :: _, [], h => by unfold q1i at h; cases h
 | sg, m :: ms, e :: es, h => by
  unfold q1i at h
  simp only [Bool.and_eq_true] at h
  rw [List.length_cons, List.length_cons, q3A h.2]
theorem z4P (ha : SEs G F ms) : S1 G F (.rng ms) := by
 refine ⟨λ {sg X E e δ r} g hc h => ?_, λ {sg X E e δ r} g hc h => ?_, λ {sg X E e tg δ r} g hc _ h => ?_⟩
 ·unfold corE at hc; rw [Bool.false_and] at hc; cases hc
 ·unfold corE at hc; rw [Bool.false_and] at hc; cases hc
 ·unfold corE at hc
  rw [Bool.true_and] at hc
  split at hc
  ·rename_i ef es pos q
   have := q0R q
   subst this
   rw [Bool.and_eq_true, decide_eq_true_eq] at hc
   obtain ⟨hc, hle⟩ := hc
   rw [Bool.and_eq_true] at hc
   obtain ⟨⟨p, rfl⟩, hg, hm⟩ := q6B g hc.1
   have l1 := q3A hc.2
   have ns := q4R hc.2
   unfold evE at h
   cases es with
   | nil =>
    exfalso
    cases ms with
    | nil => unfold evEs at h; cases h
    | cons _ _ => cases l1
   | cons y ys =>
    rw [List.any_cons, Bool.or_eq_false_iff] at ns
    cases ys with
    | nil => exact q6T hg hm (λ z hz => ha g hc.2 hz) ns.1 h λ l hl => by rw [q2r hl, l1]; rfl
    | cons z zs =>
     cases zs with
     | nil =>
      have ns2 := ns.2
      rw [List.any_cons, Bool.or_eq_false_iff] at ns2
      exact q6Q hg hm (λ z hz => ha g hc.2 hz) ns.1 ns2.1 h λ l hl => by rw [q2r hl, l1]; rfl
     | cons u us =>
      cases us with
      | nil =>
       have ns2 := ns.2
       rw [List.any_cons, Bool.or_eq_false_iff] at ns2
       have ns3 := ns2.2
       rw [List.any_cons, Bool.or_eq_false_iff] at ns3
       exact q7i hg hm (λ z hz => ha g hc.2 hz) ns.1 ns2.1 ns3.1 h λ l hl => by rw [q2r hl, l1]; rfl
      | cons _ _ => simp at hle
  ·cases hc
theorem z1P {sg : Sg} {X : Cx} {E : St -> XK} {e : Expr} {δ : List Sv} {r : Re} {tg : Tg} {fr : List (Option Nat)} {cp : CParts} {tn : List Str} (ha : S1 G F a) (hb : S1 G F b) (g : Good sg G F X E) (hemp : cp.ifs = [])
  (h2 : corE sg true b cp.it = true) (hz : isZp b = true -> (q2M cp.tg).isSome = true) (h4 : q2X sg (q1z sg tn fr) fr cp.sc tg = true) (h5 : tgOk ⟨q1z sg tn fr, cp.sc.names, sg.fn, sg.bl, sg.cl, false, true⟩ tg cp.tg = true) (h6 : corE ⟨q1z sg tn fr, cp.sc.names, sg.fn, sg.bl, sg.cl, false, true⟩ false a cp.elt = true)
  (h : evE G F (.comp a tg b fr) δ = some r) : q1x X E δ cp.tg cp.it cp.ifs cp.elt cp.sc (q1z sg tn fr) fr tg r := by
 obtain ⟨S, nd, sl⟩ := q1F g h4
 rw [hemp]
 unfold evE at h
 exact q4t S g.calm nd sl (λ z hz' => hb.2.2 g h2 hz hz') (λ C cells s₂ H₂ fp => q7r (q1J g h4 C cells s₂ H₂ fp) h5) (λ δ' r' hr C cells s₂ H₂ fp => ha.1 (q1J g h4 C cells s₂ H₂ fp) h6 hr) h
theorem q8X {sg : Sg} {X : Cx} {E : St -> XK} {e cd : Expr} {δ : List Sv} {r : Re} {tg : Tg} {fr : List (Option Nat)} {cp : CParts} {tn : List Str} (ha : S1 G F a) (hb : S1 G F b) (hcc : S1 G F c) (g : Good sg G F X E) (hemp : cp.ifs = [cd])
  (h2 : corE sg true b cp.it = true) (hz : isZp b = true -> (q2M cp.tg).isSome = true) (h4 : q2X sg (q1z sg tn fr) fr cp.sc tg = true) (h5 : tgOk ⟨q1z sg tn fr, cp.sc.names, sg.fn, sg.bl, sg.cl, false, true⟩ tg cp.tg = true) (h6 : corE ⟨q1z sg tn fr, cp.sc.names, sg.fn, sg.bl, sg.cl, false, true⟩ false a cp.elt = true)
  (h7 : corE ⟨q1z sg tn fr, cp.sc.names, sg.fn, sg.bl, sg.cl, false, true⟩ false c cd = true) (h : evE G F (.compi a tg b c fr) δ = some r) : q1x X E δ cp.tg cp.it cp.ifs cp.elt cp.sc (q1z sg tn fr) fr tg r := by
 obtain ⟨S, nd, sl⟩ := q1F g h4
 rw [hemp]
 unfold evE at h
 exact q4h S g.calm nd sl (λ z hz' => hb.2.2 g h2 hz hz') (λ C cells s₂ H₂ fp => q7r (q1J g h4 C cells s₂ H₂ fp) h5) (λ δ' r' hr C cells s₂ H₂ fp => ha.1 (q1J g h4 C cells s₂ H₂ fp) h6 hr)
  (λ δ' r' hr C cells s₂ H₂ fp => hcc.2.1 (q1J g h4 C cells s₂ H₂ fp) h7 hr) h
noncomputable def q3T (G : Gs) (F : Nat -> List DV -> Option Ou) (m : ME) : Prop := ∀ {sg : Sg} {X : Cx} {E : St -> XK} {e : Expr} {δ : List Sv} {r : Re}, Good sg G F X E -> corE sg false m e = true -> evE G F m δ = some r ->
 ∃ (cp : CParts) (N' : List Str) (fr : List (Option Nat)) (tg : Tg) (p : Pos), e = .ListComp cp.elt [⟨cp.tg, cp.it, cp.ifs, 0⟩] cp.sc p /\ CompScope X.N N' cp.sc X.env.scope fr /\ q1x X E δ cp.tg cp.it cp.ifs cp.elt cp.sc N' fr tg r /\
  (∀ C cells s₂ H₂ fp, PG (q0A X cp.sc N' C cells s₂ H₂ fp) cp.tg (gT X.K tg)) /\ q2N cp.it = false
theorem q3T.s1 {m : ME} (h : q3T G F m) (hw : ∀ sg e, corE sg true m e = corE sg false m e) (hl : ∀ sg e, corE sg false m e = true -> (q4z e).isSome = true) : S1 G F m := by
 refine .of (λ {sg X E e δ r} g hc q => ?_) hw (λ sg e env hc => ?_)
 ·obtain ⟨cp, N', fr, tg, p, rfl, S, P, hG, hs⟩ := h g hc q
  exact P.pe S g.calm hG hs
 ·have := hl sg e hc
  cases z : q4z e with
  | none => rw [z] at this; cases this
  | some cp => obtain ⟨p, rfl⟩ := q4k z; exact q0l rfl env
theorem z0j {tg : Tg} {fr : List (Option Nat)} (ha : S1 G F a) (hb : S1 G F b) : q3T G F (.comp a tg b fr) := by
 intro sg X E e δ r g hc h
 unfold corE at hc
 split at hc
 ·rename_i cp q
  obtain ⟨p, rfl⟩ := q4k q
  simp only [Bool.and_eq_true, Bool.not_eq_true', Bool.or_eq_true] at hc
  obtain ⟨⟨⟨h1, h2, h3⟩, h4⟩, h5⟩ := hc
  split at h5
  ·rename_i tn qt
   simp only [Bool.and_eq_true] at h5
   refine ⟨cp, _, fr, tg, p, rfl, (q1F g h5.1.1).1, z1P (e := .ListComp cp.elt [⟨cp.tg, cp.it, cp.ifs, 0⟩] cp.sc p) ha hb g (List.isEmpty_iff.mp h1) h2 (λ z => ?_) h5.1.1 h5.1.2 h5.2 h, λ C cells s₂ H₂ fp => q7r (q1J g h5.1.1 C cells s₂ H₂ fp) h5.1.2, h4⟩
   rcases h3 with w | w
   ·rw [z] at w; cases w
   ·exact w
  ·cases h5
 ·cases hc
theorem q7y {tg : Tg} {fr : List (Option Nat)} (ha : S1 G F a) (hb : S1 G F b) (hcc : S1 G F c) : q3T G F (.compi a tg b c fr) := by
 intro sg X E e δ r g hc h
 unfold corE at hc
 split at hc
 ·rename_i cp q
  obtain ⟨p, rfl⟩ := q4k q
  simp only [Bool.and_eq_true, Bool.not_eq_true', Bool.or_eq_true] at hc
  obtain ⟨⟨⟨h2, h3⟩, h4⟩, h5⟩ := hc
  split at h5
  ·rename_i tn ec qt qi
   simp only [Bool.and_eq_true] at h5
   refine ⟨cp, _, fr, tg, p, rfl, (q1F g h5.1.1.1).1, q8X (e := .ListComp cp.elt [⟨cp.tg, cp.it, cp.ifs, 0⟩] cp.sc p) ha hb hcc g qi h2 (λ z => ?_) h5.1.1.1 h5.1.1.2 h5.1.2 h5.2 h, λ C cells s₂ H₂ fp => q7r (q1J g h5.1.1.1 C cells s₂ H₂ fp) h5.1.1.2, h4⟩
   rcases h3 with w | w
   ·rw [z] at w; cases w
   ·exact w
  ·cases h5
 ·cases hc
theorem z3O {tg : Tg} {fr : List (Option Nat)} (ha : S1 G F a) (hb : S1 G F b) : S1 G F (.comp a tg b fr) := q3T.s1 (λ {sg X E e δ r} => z0j ha hb) (λ _ _ => rfl) λ sg e hc => by
 unfold corE at hc
 split at hc
 ·rename_i q; rw [q]; rfl
 ·cases hc
theorem z1z {tg : Tg} {fr : List (Option Nat)} (ha : S1 G F a) (hb : S1 G F b) (hcc : S1 G F c) : S1 G F (.compi a tg b c fr) := q3T.s1 (λ {sg X E e δ r} => q7y ha hb hcc) (λ _ _ => rfl) λ sg e hc => by
 unfold corE at hc
 split at hc
 ·rename_i q; rw [q]; rfl
 ·cases hc
theorem z3Y : SEs G F [] := λ {sg X E es δ r} g hc h => by
 cases es with
 | nil => unfold evEs at h; cases h; exact q9w
 | cons _ _ => unfold q1i at hc; cases hc
theorem z2V (ha : S1 G F a) (hb : SEs G F ms) : SEs G F (a :: ms) := λ {sg X E es δ r} g hc h => by
 cases es with
 | nil => unfold q1i at hc; cases hc
 | cons e es =>
  unfold q1i at hc
  simp only [Bool.and_eq_true, Bool.not_eq_true'] at hc
  unfold evEs at h
  exact q7S hc.1.2 (λ z hz => ha.1 g hc.1.1 hz) (λ z hz => hb g hc.2 hz) h
theorem z1R : SAnd G F [] := λ {sg X E es δ pos} g hc => ⟨λ r h => (by unfold q2x at h; cases h), λ r h => (by unfold q2x at h; cases h)⟩
theorem z2Y : SOr G F [] := λ {sg X E es δ pos} g hc => ⟨λ r h => (by unfold evOr at h; cases h), λ r h => (by unfold evOr at h; cases h)⟩
theorem q9I (ha : S1 G F a) (hb : SAnd G F ms) : SAnd G F (a :: ms) := λ {sg X E es δ pos} g hc => by
 cases es with
 | nil => unfold q1i at hc; cases hc
 | cons e es =>
  unfold q1i at hc
  simp only [Bool.and_eq_true, Bool.not_eq_true'] at hc
  cases ms with
  | nil =>
   cases es with
   | nil =>
    refine ⟨λ r h => ?_, λ r h => ?_⟩
    ·unfold q2x at h; exact z0f (ha.1 g hc.1.1 h)
    ·unfold q2x at h; exact z1w (ha.2.1 g hc.1.1 h)
   | cons _ _ => have := hc.2; unfold q1i at this; cases this
  | cons m ms =>
   cases es with
   | nil => have := hc.2; unfold q1i at this; cases this
   | cons e' es =>
    have B := @hb sg X E (e' :: es) δ pos g hc.2
    refine ⟨λ r h => ?_, λ r h => ?_⟩
    ·unfold q2x at h; exact z0I (λ z hz => ha.1 g hc.1.1 hz) (λ z hz => B.1 z hz) h
    ·unfold q2x at h; exact q9k (λ z hz => ha.2.1 g hc.1.1 hz) (λ z hz => B.2 z hz) h
theorem z1v (ha : S1 G F a) (hb : SOr G F ms) : SOr G F (a :: ms) := λ {sg X E es δ pos} g hc => by
 cases es with
 | nil => unfold q1i at hc; cases hc
 | cons e es =>
  unfold q1i at hc
  simp only [Bool.and_eq_true, Bool.not_eq_true'] at hc
  cases ms with
  | nil =>
   cases es with
   | nil =>
    refine ⟨λ r h => ?_, λ r h => ?_⟩
    ·unfold evOr at h; exact z0f (ha.1 g hc.1.1 h)
    ·unfold evOr at h; exact z3m (ha.2.1 g hc.1.1 h)
   | cons _ _ => have := hc.2; unfold q1i at this; cases this
  | cons m ms =>
   cases es with
   | nil => have := hc.2; unfold q1i at this; cases this
   | cons e' es =>
    have B := @hb sg X E (e' :: es) δ pos g hc.2
    refine ⟨λ r h => ?_, λ r h => ?_⟩
    ·unfold evOr at h; exact z2Q (λ z hz => ha.1 g hc.1.1 hz) (λ z hz => B.1 z hz) h
    ·unfold evOr at h; exact z0V (λ z hz => ha.2.1 g hc.1.1 hz) (λ z hz => B.2 z hz) h
theorem z4v (ha : SAnd G F ms) : S1 G F (.and ms) := by
 refine .of2 (λ {sg X E e δ r} g hc h => ?_) (λ {sg X E e δ r} g hc h => ?_) (λ _ _ => rfl)
 ·unfold corE at hc
  split at hc
  ·rename_i o es q
   obtain ⟨p, rfl⟩ := q3b q
   simp only [Bool.and_eq_true, beq_iff_eq] at hc
   obtain ⟨h1, h2⟩ := hc
   subst h1
   unfold evE at h
   exact (ha g h2).1 r h
  ·cases hc
 ·unfold corE at hc
  split at hc
  ·rename_i o es q
   obtain ⟨p, rfl⟩ := q3b q
   simp only [Bool.and_eq_true, beq_iff_eq] at hc
   obtain ⟨h1, h2⟩ := hc
   subst h1
   unfold evE at h
   exact ((ha g h2).2 r h).pt
  ·cases hc
theorem s_or (ha : SOr G F ms) : S1 G F (.or ms) := by
 refine .of2 (λ {sg X E e δ r} g hc h => ?_) (λ {sg X E e δ r} g hc h => ?_) (λ _ _ => rfl)
 ·unfold corE at hc
  split at hc
  ·rename_i o es q
   obtain ⟨p, rfl⟩ := q3b q
   simp only [Bool.and_eq_true, beq_iff_eq] at hc
   obtain ⟨h1, h2⟩ := hc
   subst h1
   unfold evE at h
   exact (ha g h2).1 r h
  ·cases hc
 ·unfold corE at hc
  split at hc
  ·rename_i o es q
   obtain ⟨p, rfl⟩ := q3b q
   simp only [Bool.and_eq_true, beq_iff_eq] at hc
   obtain ⟨h1, h2⟩ := hc
   subst h1
   unfold evE at h
   exact ((ha g h2).2 r h).pt
  ·cases hc
end
section
variable {G : Gs} {F : Nat -> List DV -> Option Ou}
mutual
theorem snd : ∀ m : ME, S1 G F m
 | .var _ => z4V
 | .int _ => z4d
 | .bl _ => s_bl
 | .str _ => z4z
 | .non => z4l
 | .glb _ => z4Y
 | .bin _ a b => z4o (snd a) (snd b)
 | .neg a => z4u (snd a)
 | .not a => z4q (snd a)
 | .cmp _ a b => z3X (snd a) (snd b)
 | .chain _ _ a b c => z1H (snd a) (snd b) (snd c)
 | .and es => z4v (z0y es)
 | .or es => s_or (z3J es)
 | .lst es => z4i (sndL es)
 | .tup es => z4F (sndL es)
 | .dc0 => z4B
 | .ix a b => s_ix (snd a) (snd b)
 | .slf a b => z4A (snd a) (snd b)
 | .call _ es => z2E (sndL es)
 | .bi _ es => s_bi (sndL es)
 | .isi a _ => z4j (snd a)
 | .isx a _ => z4p (snd a)
 | .comp a _ b _ => z3O (snd a) (snd b)
 | .compi a _ b c _ => z1z (snd a) (snd b) (snd c)
 | .rng es => z4P (sndL es)
theorem sndL : ∀ ms : List ME, SEs G F ms
 | [] => z3Y
 | a :: ms => z2V (snd a) (sndL ms)
theorem z0y : ∀ ms : List ME, SAnd G F ms
 | [] => z1R
 | a :: ms => q9I (snd a) (z0y ms)
theorem z3J : ∀ ms : List ME, SOr G F ms
 | [] => z2Y
 | a :: ms => z1v (snd a) (z3J ms)
end
end
end L2
end
section
namespace L2
open PySem PySem.Spec PyProof.Rows
section
variable (G : Gs) (F : Nat -> List DV -> Option Ou) (fu : Nat)
noncomputable def SS (m : MS) : Prop := ∀ {sg : Sg} {X : Cx} {E : St -> XK} {st : Stmt} {δ : List Sv} {o : Out}, Good sg G F X E -> corS sg m st = true -> evS G F fu m δ = some o -> PS X st (dS X.D E δ o)
noncomputable def SSs (ms : List MS) : Prop := ∀ {sg : Sg} {X : Cx} {E : St -> XK} {sts : List Stmt} {δ : List Sv} {o : Out}, Good sg G F X E -> q2Z sg ms sts = true -> evSs G F fu ms δ = some o -> PSs X sts (dS X.D E δ o)
end
section
variable {G : Gs} {F : Nat -> List DV -> Option Ou} {fu : Nat} {e k : ME} {i : Nat}
theorem z2A : ∀ {e : ME}, q8v e = true -> q3T G F e
 | .comp a _ b _, _ => z0j (snd a) (snd b)
 | .compi a _ b c _, _ => q7y (snd a) (snd b) (snd c)
theorem z4s {own : Bool} : SS G F fu (.set i own e) := by
 intro sg X E st δ o g hc h
 unfold corS at hc
 split at hc
 ·rename_i t v pos
  split at hc
  ·rename_i x pt
   simp only [Bool.and_eq_true, beq_iff_eq, Bool.or_eq_true, Bool.not_eq_true'] at hc
   obtain ⟨⟨⟨h1, h2⟩, h3⟩, h4⟩ := hc
   have l := g.loc x h2
   have hN : X.N[i]? = some x := by rw [g.N]; exact h1
   unfold evS at h
   cases hv : q3z v with
   | false => exact q8s g.nd hN l.1 l.2 (λ z hz => (snd e).1 g h3 hz) (q1X hv) h
   | true =>
    rcases h4 with h4 | h5
    ·rw [hv] at h4; cases h4
    ·cases hr : evE G F e δ with
     | none => rw [hr] at h; cases h
     | some r =>
      obtain ⟨cp, N', fr, tg, p, rfl, S, P, hG, hs⟩ := z2A h5 g h3 hr
      cases hb : (X.env.blockKind == .function && X.env.kindOf x == some .local && pt.line == (Expr.ListComp cp.elt [⟨cp.tg, cp.it, cp.ifs, 0⟩] cp.sc p).pos.line && !(cp.sc.names.any λ (n, k) => n == x && (k == .local || k == .cell))) with
      | false =>
       have hsw : swapsWith (.ListComp cp.elt [⟨cp.tg, cp.it, cp.ifs, 0⟩] cp.sc p) (some (.Name x pt)) pos.line X.env = pure false := by
        show (pure (X.env.blockKind == .function && X.env.kindOf x == some .local && pt.line == (Expr.ListComp cp.elt [⟨cp.tg, cp.it, cp.ifs, 0⟩] cp.sc p).pos.line && !(cp.sc.names.any λ (n, k) => n == x && (k == .local || k == .cell))) : Sem Bool) = pure false
        rw [hb]
       exact q8s g.nd hN l.1 l.2 (λ z hz => (snd e).1 g h3 hz) hsw h
      | true =>
       have hsw : swapsWith (.ListComp cp.elt [⟨cp.tg, cp.it, cp.ifs, 0⟩] cp.sc p) (some (.Name x pt)) pos.line X.env = pure true := by
        show (pure (X.env.blockKind == .function && X.env.kindOf x == some .local && pt.line == (Expr.ListComp cp.elt [⟨cp.tg, cp.it, cp.ifs, 0⟩] cp.sc p).pos.line && !(cp.sc.names.any λ (n, k) => n == x && (k == .local || k == .cell))) : Sem Bool) = pure true
        rw [hb]
       rw [hr] at h
       have h4 : X.env.kindOf x = some .local := by
        simp only [Bool.and_eq_true, beq_iff_eq] at hb
        exact hb.1.1.2
       exact q6n S g.calm g.nd hN h4 P hG hs hsw h
  ·cases hc
 ·cases hc
theorem z4k : SS G F fu (.app i e) := by
 intro sg X E st δ o g hc h
 unfold corS at hc
 split at hc
 ·rename_i v pos
  split at hc
  ·rename_i ef ea cpos q
   have := q0R q
   subst this
   split at hc
   ·rename_i ob n apos q2
    have := q5x q2
    subst this
    simp only [Bool.and_eq_true, Bool.not_eq_true'] at hc
    obtain ⟨⟨⟨⟨h1, h2⟩, h3⟩, h4⟩, h5⟩ := hc
    split at h2
    ·rename_i x q3
     obtain ⟨np, rfl⟩ := q0p q3
     obtain ⟨s1, s2, s3, s4⟩ := q3q g h2
     have hn : n = "append" := beq_iff_eq.mp h1
     subst hn
     unfold evS at h
     exact q6W (q4q s1 s2 s3 s4) (λ z hz => (snd e).1 g h3 hz) h4 h5 h
    ·cases h2
   ·cases hc
  ·cases hc
 ·cases hc
theorem z2i {is : List Nat} : SS G F fu (.sett is e) := by
 intro sg X E st δ o g hc h
 unfold corS at hc
 split at hc
 ·rename_i t v pos
  simp only [Bool.and_eq_true, Bool.not_eq_true'] at hc
  obtain ⟨⟨⟨h1, h2⟩, h3⟩, h4⟩ := hc
  unfold tgOk at h1
  dsimp only at h1
  split at h1
  ·rename_i es q
   obtain ⟨kk, tp, rfl⟩ := q2L q
   rw [Bool.and_eq_true, Bool.and_eq_true, beq_iff_eq] at h1
   obtain ⟨A, B, C⟩ := q4b g is es h1.1.1 h1.2
   unfold evS at h
   exact q9E (z2S g.calm A B C) (λ z hz => (snd e).1 g h2 hz) h4 h3 h
  ·cases h1
 ·cases hc
theorem RSt.turn {D : Dm} {H H' : Hp} {σ : St} {δ : List Sv} {O W : List Addr} {p : Addr} {ds ds' : List DV} {xs' : List V} (R : RSt D H σ δ O W) (hi : δ[i]? = some (.own (.lst ds))) (hp : σ[i]? = some (some (.ref p))) (hw : p ∈ W) (s : Same (L2.wo [p] H) H') (h' : H' p = some (.lst xs')) (r : RepL D (L2.wo (O ++ W) H') ds' xs') : RSt D H' σ (δ.set i (.own (.lst ds'))) O W := by
 obtain ⟨a, xs, ds0, e0, e1, e2, e3, e4⟩ := R.own i _ hi
 cases hp.symm.trans e1
 have hsm : Same H (upd H' p (.lst xs)) := λ b o e => by
  by_cases hb : b = p
  ·subst hb; rw [q0Q]; rw [e3] at e; exact e
  ·rw [q0v hb]; exact s b o (by rw [q0t (by simpa using hb)]; exact e)
 have R1 := R.mono hsm
 have R2 := R1.write (xs' := xs') (ds' := ds') hi hp (r.mono λ b o e => by
  obtain ⟨hb, e⟩ := q0W e
  rw [q0t hb, q0v λ z => hb (by rw [z]; exact List.mem_append_right _ hw)]
  exact e)
 rw [show upd (upd H' p (.lst xs)) p (.lst xs') = H' by
  funext b
  by_cases hb : b = p
  ·subst hb; rw [q0Q]; exact h'.symm
  ·rw [q0v hb, q0v hb]] at R2
 exact R2
theorem q4M {sg : Sg} {X : Cx} {E : St -> XK} {δ : List Sv} {v : Expr} {ea : Expr} {d : DV} {ds : List DV} {c : Cl} (g : Good sg G F X E) (hh : G.hun = true) (hv : hunB sg i v = some ea) (hi : δ[i]? = some (.own (.lst ds))) (he : PE X ea (dE X.D E δ (.ok d c))) (hs : stro d c = true) {r : DV × List DV} {k : Nat} {fa : Addr} {fd : FuncData} {ps : List Str} {hf : DV -> List DV -> Option (DV × List DV)} (hr : Room k X.A) (hm : X.mg q1l = some (.ref fa)) (hk : PySem.W.keepIn X.K (.ref fa) = true) (hb : q2T X.K fd ps [])
  (fo : FnOk X.prog X.w X.K X.mg X.base (CXx X.prog X.w X.base) k fa fd ps (spH X.D hf)) (hd : hf d ds = some r) :
  PE X v (λ σ H Q => ∃ O W p, RSt X.D H σ δ O W /\ σ[i]? = some (some (.ref p)) /\ p ∈ W /\ ∀ v' H' xs', Same (L2.wo [p] H) H' -> H' p = some (.lst xs') -> Rep X.D (L2.wo (O ++ W) H') r.1 v' -> RepL X.D (L2.wo (O ++ W) H') r.2 xs' -> Q v' H') := by
 unfold hunB at hv
 split at hv
 ·rename_i ef ea' eo cpos q1
  split at hv
  ·rename_i f x q2 q3
   split at hv
   ·rename_i hcnd
    cases hv
    simp only [Bool.and_eq_true, Bool.not_eq_true', beq_iff_eq] at hcnd
    obtain ⟨⟨⟨h1, h2⟩, h3⟩, h4⟩ := hcnd
    have := q0R q1
    subst this
    obtain ⟨p1, rfl⟩ := q0p q2
    obtain ⟨p2, rfl⟩ := q0p q3
    subst h1
    obtain ⟨s1, s2, s3, s4⟩ := q3q g h3
    refine (q4X (p := p1) (pos := cpos) fo hr (g.glo _ h2) hm hk hb .nil g.pas (q0N he (q0N (q4q s1 s2 s3 s4) q2C (q0j rfl)) (q0j h4)) (by decide) (q0j h4) (by rw [q0j rfl]; rfl)).weak λ σ H Q ⟨O, W, p, R, e1, e2, k⟩ => ?_
    refine ⟨O, W, R, λ v H1 sm1 gt => ⟨.ref p, e1, ?_⟩⟩
    obtain ⟨p', xs, ds0, z0, z1, z2, z3, z4⟩ := (R.mono sm1).own i _ hi
    cases z0
    cases e1.symm.trans z1
    have hd1 := R.hid.mono sm1
    have hpO : p ∉ O := R.hid.dj p e2
    have up : Same (L2.wo (O ++ W) H1) (L2.wo ((O ++ W.filter (· ≠ p)) ++ [p]) H1) := q0U λ b hb => by
     simp only [List.mem_append, List.mem_filter, List.mem_singleton, decide_eq_true_eq, ne_eq] at hb ⊢
     rcases hb with (hb | hb) | hb
     ·exact .inl hb
     ·exact .inr hb.1
     ·rw [hb]; exact .inr e2
    have dn : ∀ H2, Same (L2.wo ((O ++ W.filter (· ≠ p)) ++ [p]) H2) (L2.wo (O ++ W) H2) := λ H2 => q0U λ b hb => by
     simp only [List.mem_append, List.mem_filter, List.mem_singleton, decide_eq_true_eq, ne_eq] at hb ⊢
     rcases hb with hb | hb
     ·exact .inl (.inl hb)
     ·by_cases z : b = p
      ·exact .inr z
      ·exact .inl (.inr ⟨hb, z⟩)
    show spH X.D hf [v, .ref p] H1 Q (E σ)
    refine ⟨O ++ W.filter (· ≠ p), p, v, d, ds, xs, r, rfl, λ a ha q => ?_, ?_, z3, (gt.stro hd1 hs).mono up, z4.mono up, hd, λ v' H' xs' q1 q2 q3 q4 => k v' H' xs' ?_ q2 (q3.mono (dn H')) (q4.mono (dn H'))⟩
    ·refine hd1.ot a ?_ (sm1.free q)
     simp only [List.mem_append, List.mem_filter] at ha ⊢
     rcases ha with ha | ha
     ·exact .inl ha
     ·exact .inr ha.1
    ·intro z
     rcases List.mem_append.mp z with z | z
     ·exact hpO z
     ·have := (List.mem_filter.mp z).2
      simp at this
    ·exact λ b o e => q1 b o (sm1.wo b o e)
   ·cases hv
  ·cases hv
 ·cases hv
theorem z4t : SS G F fu (.rhg i e) := by
 intro sg X E st δ o g hc h
 unfold corS at hc
 split at hc
 ·rename_i v pos
  split at hc
  ·rename_i ea q
   unfold evS at h
   split at h
   ·rename_i hh
    split at h
    ·rename_i ds hi
     cases hra : evE G F e δ with
     | none => rw [hra] at h; cases h
     | some z =>
      rw [hra] at h
      have A := (snd e).1 g hc hra
      cases z with
      | ex c =>
       cases h
       unfold hunB at q
       split at q
       ·rename_i ef ea' eo cpos q1
        split at q
        ·rename_i f x q2 q3
         split at q
         ·rename_i hcnd
          cases q
          simp only [Bool.and_eq_true, Bool.not_eq_true', beq_iff_eq] at hcnd
          obtain ⟨⟨⟨h1, h2⟩, h3⟩, h4⟩ := hcnd
          have := q0R q1
          subst this
          obtain ⟨p1, rfl⟩ := q0p q2
          obtain ⟨p2, rfl⟩ := q0p q3
          subst h1
          obtain ⟨s1, s2, s3, s4⟩ := q3q g h3
          obtain ⟨k, fa, fd, ps, hf, hr, hm, hk, hb, hF, fo⟩ := g.hun hh
          exact (q3B (q4X (p := p1) (pos := cpos) fo hr (g.glo _ h2) hm hk hb .nil g.pas (q0N A (q0N (q4q s1 s2 s3 s4) q2C (q0j rfl)) (q0j h4)) (by decide) (q0j h4) (by rw [q0j rfl]; rfl))).weak λ Dn σ H ⟨H0, O, W, R, fr, fo, sm, k⟩ => ⟨O, W, R, q4u (Q := λ _ _ => False) R fr sm k⟩
         ·cases q
        ·cases q
       ·cases q
      | ok d c =>
       have h' : (if stro d c = true then (match F q2D [d, .lst ds] with | some (.v r _) => some (.rt r false) | _ => none) else none) = some o := h
       split at h'
       ·rename_i hs
        obtain ⟨k, fa, fd, ps, hf, hr, hm, hk, hb, hF, fo⟩ := g.hun hh
        rw [hF] at h'
        cases hd : hf d ds with
        | none => rw [hd] at h'; cases h'
        | some r =>
         rw [hd] at h'
         cases h'
         refine (q3B (q4M g hh q hi A hs hr hm hk hb fo hd)).weak λ Dn σ H ⟨H0, O, W, R, fr, fo, sm, k⟩ => ?_
         obtain ⟨p, xs, ds0, e0, e1, e2, e3, e4⟩ := R.own i _ hi
         refine ⟨O, W, p, R, e1, e2, λ v' H' xs' s h1 h2 h3 => k v' H' (λ b o e => s b o ?_) (h2.mono (q0U q4U) : Rep X.D (L2.wo O H') r.1 v')⟩
         rw [q0t (by intro z; rw [List.mem_singleton] at z; subst z; rw [fr _ e2] at e; cases e)]
         exact sm b o e
       ·cases h'
    ·cases h
   ·cases h
  ·cases hc
 ·cases hc
theorem z2j : SS G F fu (.seti i k e) := by
 intro sg X E st δ o g hc h
 unfold corS at hc
 split at hc
 ·rename_i t v pos
  split at hc
  ·rename_i ob ek q
   obtain ⟨sp, rfl⟩ := q3a q
   simp only [Bool.and_eq_true, Bool.not_eq_true'] at hc
   obtain ⟨⟨⟨h2, h3⟩, h4⟩, h5⟩ := hc
   split at h2
   ·rename_i x q3
    obtain ⟨np, rfl⟩ := q0p q3
    obtain ⟨s1, s2, s3, s4⟩ := q3q g h2
    unfold evS at h
    exact q8p (q4q s1 s2 s3 s4) (λ z hz => (snd e).1 g h5 hz) (λ z hz => (snd k).1 g h3 hz) h4 h
   ·cases h2
  ·cases hc
 ·cases hc
theorem z3W : SS G F fu (.exp e) := by
 intro sg X E st δ o g hc h
 unfold corS at hc
 split at hc
 ·simp only [Bool.and_eq_true, Bool.not_eq_true'] at hc
  unfold evS at h
  exact z0Y (λ z hz => (snd e).1 g hc.1 hz) hc.2 h
 ·cases hc
theorem z4g : SS G F fu (.ret e) := by
 intro sg X E st δ o g hc h
 unfold corS at hc
 split at hc
 ·unfold evS at h
  exact z1h (λ z hz => (snd e).1 g hc hz) h
 ·cases hc
theorem z4m {c : Str} : SS G F fu (.rse c e) := by
 intro sg X E st δ o g hc h
 unfold corS at hc
 split at hc
 ·rename_i v pos
  split at hc
  ·rename_i ef ea cpos q
   have := q0R q
   subst this
   simp only [Bool.and_eq_true, Bool.not_eq_true', beq_iff_eq, bne_iff_ne, ne_eq] at hc
   obtain ⟨⟨⟨⟨⟨h0, h1⟩, h2⟩, h3⟩, h4⟩, h5⟩ := hc
   obtain ⟨np, rfl⟩ := q0p h1
   unfold evS at h
   exact q8w g.xf g.calm (g.glo c h2) (beq_eq_false_iff_ne.mpr h3) (g.st h0).2.2.2 (λ z hz => (snd e).1 g h4 hz) h5 h
  ·cases hc
 ·cases hc
theorem z4G {body : List MS} {c : Str} {ie ic : Nat} (hb : SSs G F fu body) : SS G F fu (.tryc body c ie ic) := by
 intro sg X E st δ o g hc h
 unfold corS at hc
 split at hc
 ·rename_i b hd pos
  cases hd with
  | ExceptHandler t n bd hp =>
  simp only [Bool.and_eq_true, q5q] at hc
  obtain ⟨⟨h0, h1⟩, h2⟩ := hc
  split at h2
  ·rename_i t' n' t2 v2 ap q
   simp only [Option.some.injEq, Prod.mk.injEq] at q
   obtain ⟨rfl, rfl, rfl⟩ := q
   simp only [Bool.and_eq_true, beq_iff_eq, bne_iff_ne, ne_eq, List.contains_iff_mem] at h2
   obtain ⟨⟨⟨⟨⟨⟨⟨⟨⟨⟨k1, k2⟩, k3⟩, k4⟩, k5⟩, k6⟩, k7⟩, k8⟩, k9⟩, k10⟩, k11⟩ := h2
   split at k10
   ·rename_i x q2
    simp only [Bool.and_eq_true, beq_iff_eq] at k10
    obtain ⟨tp, rfl⟩ := q0p q2
    obtain ⟨vp, rfl⟩ := q0p k9
    obtain ⟨np, rfl⟩ := q0p k1
    have l := g.loc x k10.2
    obtain ⟨s1, s2, s3, _⟩ := g.st h0
    unfold evS at h
    exact z0B g.xf s1 s2 s3 (g.glo c k2) k4 (beq_eq_false_iff_ne.mpr k3) g.nd (by rw [g.N]; exact k5) (g.lcl _ k6) (beq_eq_false_iff_ne.mpr k7) (beq_eq_false_iff_ne.mpr k8) (by rw [g.N]; exact k10.1) l.1 l.2
     (λ pins E' q hq => hb (q9O g pins E') h1 hq) h
   ·cases k10
  ·cases h2
 ·cases hc
theorem z4n : SS G F fu (.frz i) := by
 intro sg X E st δ o g hc h
 unfold corS at hc
 cases hc
variable {a b body : List MS} {c : ME} {tg : Tg}
theorem z4x (ha : SSs G F fu a) (hb : SSs G F fu b) : SS G F fu (.iff c a b) := by
 intro sg X E st δ o g hc h
 unfold corS at hc
 split at hc
 ·simp only [Bool.and_eq_true] at hc
  unfold evS at h
  exact z2F (λ z hz => (snd c).2.1 g hc.1.1 hz) (λ z hz => ha g hc.1.2 hz) (λ z hz => hb g hc.2 hz) h
 ·cases hc
theorem t_fo (hb : SSs G F fu body) : SS G F fu (.fo tg e body) := by
 intro sg X E st δ o g hc h
 unfold corS at hc
 split at hc
 ·simp only [Bool.and_eq_true, Bool.not_eq_true', Bool.or_eq_true] at hc
  obtain ⟨⟨⟨⟨h0, h1⟩, h2, h3⟩, h4⟩, h5⟩ := hc
  unfold evS at h
  exact z1i (g.own h0) g.calm (λ z hz => (snd e).2.2 g h2 (λ w => by
   rcases h3 with q | q
   ·rw [w] at q; cases q
   ·exact q) hz) (q7r g h1) (λ δ' o' ho => hb g h5 ho) h4 h
 ·cases hc
theorem z3f : SSs G F fu [] := by
 intro sg X E sts δ o g hc h
 cases sts with
 | nil => unfold evSs at h; cases h; exact z1B
 | cons a b => unfold q2Z at hc; cases hc
theorem z3n {ms : List MS} (hb : SSs G F fu ms) : SSs G F fu (.frz i :: ms) := by
 intro sg X E sts δ o g hc h
 have hc' : q2Z sg ms sts = true := by unfold q2Z at hc; exact hc
 unfold evSs at h
 have key : evS G F fu (.frz i) δ = (match δ[i]? with | some (.own d) => some (.nx (δ.set i (.val d))) | _ => some (.nx δ)) := by unfold evS; rfl
 rw [key] at h
 cases q : δ[i]? with
 | none => rw [q] at h; exact hb g hc' h
 | some sv =>
  rw [q] at h
  cases sv with
  | own d => exact q7e q (hb g hc' h)
  | no => exact hb g hc' h
  | val d => exact hb g hc' h
  | ot d => exact hb g hc' h
  | o2 d => exact hb g hc' h
theorem q1E {m : MS} {ms : List MS} (ha : SS G F fu m) (hb : SSs G F fu ms) (hm : ∀ i, m ≠ .frz i) : SSs G F fu (m :: ms) := by
 intro sg X E sts δ o g hc h
 cases sts with
 | nil =>
  exfalso
  cases m <;> first | exact hm _ rfl | (unfold q2Z at hc; cases hc)
 | cons st sts =>
  have hc' : corS sg m st = true /\ q2Z sg ms sts = true := by
   cases m <;> first | exact absurd rfl (hm _) | (unfold q2Z at hc; rw [Bool.and_eq_true] at hc; exact hc)
  unfold evSs at h
  split at h
  ·rename_i δ' q
   exact q9W (ha g hc'.1 q) (hb g hc'.2 h)
  ·rename_i hne
   have A := ha g hc'.1 h
   cases o with
   | nx δ' => exact absurd h (hne δ')
   | rt d fr => exact z2z A
   | rtt d => exact z2a A
   | ex c δ' => exact z2y A
end
section
variable {G : Gs} {F : Nat -> List DV -> Option Ou} {fu : Nat}
mutual
theorem sndS : ∀ m : MS, SS G F fu m
 | .set _ _ _ => z4s
 | .sett _ _ => z2i
 | .app _ _ => z4k
 | .seti _ _ _ => z2j
 | .exp _ => z3W
 | .ret _ => z4g
 | .iff _ a b => z4x (q2y a) (q2y b)
 | .fo _ _ body => t_fo (q2y body)
 | .rhg _ _ => z4t
 | .rse _ _ => z4m
 | .tryc body _ _ _ => z4G (q2y body)
 | .frz _ => z4n
theorem q2y : ∀ ms : List MS, SSs G F fu ms
 | [] => z3f
 | .frz _ :: ms => z3n (q2y ms)
 | .set i o e :: ms => q1E (sndS (.set i o e)) (q2y ms) (by intro i z; cases z)
 | .sett i o :: ms => q1E (sndS (.sett i o)) (q2y ms) (by intro i z; cases z)
 | .app i o :: ms => q1E (sndS (.app i o)) (q2y ms) (by intro i z; cases z)
 | .seti i k o :: ms => q1E (sndS (.seti i k o)) (q2y ms) (by intro i z; cases z)
 | .exp e :: ms => q1E (sndS (.exp e)) (q2y ms) (by intro i z; cases z)
 | .ret e :: ms => q1E (sndS (.ret e)) (q2y ms) (by intro i z; cases z)
 | .iff c a b :: ms => q1E (sndS (.iff c a b)) (q2y ms) (by intro i z; cases z)
 | .fo t i b :: ms => q1E (sndS (.fo t i b)) (q2y ms) (by intro i z; cases z)
 | .rhg i o :: ms => q1E (sndS (.rhg i o)) (q2y ms) (by intro i z; cases z)
 | .rse c e :: ms => q1E (sndS (.rse c e)) (q2y ms) (by intro i z; cases z)
 | .tryc a b c d :: ms => q1E (sndS (.tryc a b c d)) (q2y ms) (by intro i z; cases z)
end
end
end L2
end
section
namespace L2
open PySem PySem.Spec PyProof.Rows
structure FunD (K : PySem.W.Frag) (x qual : Str) (st : Stmt) (f : Addr) (fd : FuncData) : Prop where
 ex : ∃ (oc : Value) (od : Option Addr) (dV kV doc pm : Value) (an : Option Addr) (cdv ct : Value) (osl : Array (Option Value)),
  fd = PySem.W.fnOf x qual (q0n st) (q0i st) (q0e st) dV kV doc pm an cdv ct /\ K.lookup f = some ⟨oc, od, .func fd, osl⟩ /\ PySem.W.codeIn K cdv qual = true
theorem FunD.okX {P : Program} {w : World} {K : PySem.W.Frag} {mg : Str -> Option Value} {base : Heap} {x qual : Str} {st : Stmt} {f : Addr} {fd : FuncData} {N ps : List Str} {k : Nat} {sp : Sp} (F : FunD K x qual st f fd) (S : FnScope N ps (q0e st)) (len : ∀ vs H Q E, sp vs H Q E -> vs.length = ps.length)
  (hbody : ∀ (cdv : Value) (A : Around) (outer : List Env) (s : Shared) (H : Hp) (vs : List V) (Q : VK) (E : XK), Room k (A.deeper (envOfC qual (q0e st) s.heap.objs.size f cdv)) -> sp vs H Q E ->
   ∃ t, PSs (cxD P w K mg base N qual (q0e st) f cdv A outer s H E) (q0i st) t /\ t { nx := λ _ H' => Q .non H', rt := Q } (start N vs) H) : FnOk P w K mg base (CXx P w base) (k + 1) f fd ps sp := by
 obtain ⟨oc, od, dV, kV, doc, pm, an, cdv, ct, osl, rfl, lk, hcd⟩ := F.ex
 exact z4J lk hcd S len λ A outer s H vs Q E hr hsp => hbody cdv A outer s H vs Q E hr hsp
noncomputable def popB (sg : Sg) (v : Expr) : Bool := match q2f v with
 | some (ef, [ea], [], pos) => (match q6D ef with
  | some (o, n, apos) => n == "pop" && (match q1c o with | some x => q6k sg 1 x | none => false) && corE sg false (.int 0) ea && !q0x ea && apos.endLine == pos.line
  | none => false)
 | _ => false
noncomputable def hunC (sg : Sg) (m : ME) (v : Expr) : Bool := match hunB sg 1 v with | some ea => corE sg false m ea | none => false
noncomputable def hm0 : ME := .cmp .Eq (.ix (.var 0) (.int 0)) (.str "end")
noncomputable def hm1 : ME := .cmp .Eq (.var 1) (.lst [])
noncomputable def corH (sg : Sg) (b : List Stmt) : Bool := match b with
 | [.If c [.If c2 [.Return (some e1) _] [] _, .Return (some e2) _] [] _, .Assign [.Name x _] e3 _, .Return (some e4) _] =>
  corE sg false hm0 c && corE sg false hm1 c2 && corE sg false (.var 0) e1 && popB sg e2 && sg.N[2]? == some x && locB sg x && !q3z e3 && hunC sg (.ix (.var 0) (.int 3)) e3 &&
  (match q2M e4 with
   | some [a, b, c, d, e] => corE sg false (.str "ask") a && corE sg false (.ix (.var 0) (.int 1)) b && corE sg false (.ix (.var 0) (.int 2)) c && corE sg false (.var 2) d && hunC sg (.ix (.var 0) (.int 4)) e && !q0x a && !q0x b && !q0x c && !q0x d && !q0x e
   | _ => false)
 | _ => false
noncomputable def hG : Gs := { con := [], cls := [], hun := true }
structure HStands (K : PySem.W.Frag) (mg : Str -> Option Value) (fa : Addr) (fd : FuncData) (ps : List Str) : Prop where
 mg : mg q1l = some (.ref fa)
 kp : PySem.W.keepIn K (.ref fa) = true
 bi : q2T K fd ps []
 np : ps.length = 2
 ex : ∃ qual st N, FunD K q1l qual st fa fd /\ FnScope N ps (q0e st) /\ N.length = 3 /\ corH ⟨N, (q0e st).names, [], [], [], true, true⟩ (q0i st) = true
theorem q7A {k : Nat} {d : DV} {l : List DV} : q3u k q2D [d, .lst l] = (q2p k d l).map λ r => .v r.1 false := by
 show (if q2D = q2D then _ else none) = _
 exact if_pos rfl
noncomputable def hδ (d : DV) (ds : List DV) (x : Sv) : List Sv := [.val d, .own (.lst ds), x]
theorem z1D {D : Dm} {H : Hp} {O : List Addr} {p : Addr} {v : V} {d : DV} {ds : List DV} {xs : List V} (ho : ∀ a ∈ O, H a ≠ none) (hp : p ∉ O) (hx : H p = some (.lst xs)) (r : Rep D (L2.wo (O ++ [p]) H) d v) (rs : RepL D (L2.wo (O ++ [p]) H) ds xs) : RSt D H [some v, some (.ref p), none] (hδ d ds .no) O [p] := by
 have two : ∀ (i : Nat) d', (hδ d ds .no)[i]? = some (.own d') -> i = 1 /\ d' = .lst ds := λ i d' h => by
  match i with
  | 0 => cases h
  | 1 => cases h; exact ⟨rfl, rfl⟩
  | 2 => cases h
  | n + 3 => cases h
 refine ⟨λ i d' h => ?_, λ i d' h => ?_, λ i j a d1 d2 h1 h2 _ _ => (two i d1 h1).1.trans (two j d2 h2).1.symm, λ i d' h => ?_, λ i d' h => ?_, rfl, ⟨λ a ha => ?_, Same.refl _, λ a ha => ?_, λ a ha => ?_⟩⟩
 ·match i with
  | 0 => cases h; exact ⟨v, rfl, r⟩
  | 1 => cases h
  | 2 => cases h
  | n + 3 => cases h
 ·obtain ⟨rfl, rfl⟩ := two i d' h
  exact ⟨p, xs, ds, rfl, rfl, List.mem_singleton.mpr rfl, hx, rs⟩
 ·exfalso
  match i with
  | 0 => cases h
  | 1 => cases h
  | 2 => cases h
  | n + 3 => cases h
 ·exfalso
  match i with
  | 0 => cases h
  | 1 => cases h
  | 2 => cases h
  | n + 3 => cases h
 ·rcases List.mem_append.mp ha with z | z
  ·exact ho a z
  ·rw [List.mem_singleton.mp z, hx]; intro z; cases z
 ·rw [List.mem_singleton.mp ha]; exact ⟨xs, hx⟩
 ·rw [List.mem_singleton.mp ha]; exact hp
theorem q9D {O : List Addr} {p : Addr} {H H' : Hp} (s : Same (L2.wo [p] H) H') : Same (L2.wo (O ++ [p]) H) (L2.wo (O ++ [p]) H') := λ b o e => by
 obtain ⟨hb, e⟩ := q0W e
 rw [q0t hb]
 exact s b o (by rw [q0t λ z => hb (List.mem_append_right _ z)]; exact e)
theorem q4f {p : Addr} {H H' H2 : Hp} (s : Same (L2.wo [p] H) H') (s2 : Same (L2.wo [p] H') H2) : Same (L2.wo [p] H) H2 := λ b o e => by
 have hb := (q0W e).1
 exact s2 b o (by rw [q0t hb]; exact s b o e)
section
variable {F : Nat -> List DV -> Option Ou} {d : DV} {ds : List DV} {x : Sv} {s : Str}
theorem h_c0 {r : List DV} (hp : s.cps.all (· < 0x110000) = true) (hx : ixD (.tup (.str s :: r)) (.int 0) = some (.str s)) : tstD (evE hG F hm0 (hδ (.tup (.str s :: r)) ds x)) = some (.ok (decide (s = "end"))) := by
 have e2 : evE hG F hm0 (hδ (.tup (.str s :: r)) ds x) = some (.ok (.bl (decide (s = "end"))) .strong) := q1Q (q0s (q0b rfl) q0c hx) q0z (by
  show (if (DV.plain 60 (.str s) && DV.plain 60 (.str "end")) = true then some (deq (.str s) (.str "end")) else none) = _
  rw [if_pos (by
   rw [Bool.and_eq_true]
   exact ⟨by unfold DV.plain; exact hp, by decide +kernel⟩)]
  rfl)
 rw [e2]
 rfl
theorem h_c1 (hp : DV.plains 59 ds = true) : tstD (evE hG F hm1 (hδ d ds x)) = some (.ok ds.isEmpty) := by
 have e2 : evE hG F hm1 (hδ d ds x) = some (.ok (.bl ds.isEmpty) .strong) := q1Q (x := .lst ds) (y := .lst []) (q3p rfl) (cy := .fresh) rfl (by
  show (if (DV.plain 60 (.lst ds) && DV.plain 60 (.lst [])) = true then some (deq (.lst ds) (.lst [])) else none) = _
  rw [if_pos (by
   rw [Bool.and_eq_true]
   exact ⟨by unfold DV.plain; exact hp, by decide +kernel⟩)]
  cases ds <;> rfl)
 rw [e2]
 rfl
end
section
variable {P : Program} {w : World} {K : PySem.W.Frag} {mg : Str -> Option Value} {base : Heap} {fa : Addr} {fd : FuncData} {ps : List Str}
theorem z3y {sg : Sg} {X : Cx} {E : St -> XK} {F : Nat -> List DV -> Option Ou} {δ : List Sv} {v : Expr} (g : Good sg hG F X E) (hv : popB sg v = true) :
  PE X v (λ σ H Q => ∃ O W p xs y, RSt X.D H σ δ O W /\ σ[1]? = some (some (.ref p)) /\ H p = some (.lst (y :: xs)) /\ ∀ H1, Same H H1 -> Q y (upd H1 p (.lst xs))) := by
 unfold popB at hv
 split at hv
 ·rename_i ef ea cpos q
  have := q0R q
  subst this
  split at hv
  ·rename_i ob n apos q2
   have := q5x q2
   subst this
   simp only [Bool.and_eq_true, Bool.not_eq_true'] at hv
   obtain ⟨⟨⟨⟨h1, h2⟩, h3⟩, h4⟩, h5⟩ := hv
   split at h2
   ·rename_i x q3
    obtain ⟨np, rfl⟩ := q0p q3
    obtain ⟨s1, s2, s3, s4⟩ := q3q g h2
    have hn : n = "pop" := beq_iff_eq.mp h1
    subst hn
    have A : PE X ea (dE X.D E δ (.ok (.int 0) .strong)) := (snd (.int 0)).1 g h3 rfl
    refine (z2l PySem.F.plainAttrs_list PySem.F.slot_list_pop PySem.F.type_list_pop q9e (q4q s1 s2 s3 s4) (q0N A q2C (q0j h4)) rfl (by rw [q0j h4]; rfl) h5 (q0j h4) rfl).weak λ σ H Q ⟨O, W, p, xs, y, R, e1, e2, k⟩ => ?_
    refine ⟨.ref p, e1, .inl ⟨rfl, y :: xs, SqL.of e2⟩, O, W, R, λ v H1 sm1 gt => ?_⟩
    have hv : v = .int 0 := gt.int (R.hid.mono sm1)
    subst hv
    exact ⟨p, y :: xs, 0, 0, y, rfl, rfl, sm1 _ _ e2, by decide, by decide, by unfold seqIndex?; simp, rfl, k H1 sm1⟩
   ·cases h2
  ·cases hv
 ·cases hv
noncomputable def z1A (f : DV -> List DV -> Option (DV × List DV)) (d : DV) (l : List DV) : Option (DV × List DV) := match d with
  | .tup [.str s, x] => if decide (s = "end") && d.plain 60 && DV.plains 59 l then (match l with
   | [] => some (d, [])
   | y :: l' => some (y, l')) else none
  | .tup [.str s, a, b, c, e] => if decide (s ≠ "end") && (s.cps.all (· < 0x110000)) then (match f c l with
   | none => none
   | some (n, l1) => match f e l1 with
    | none => none
    | some (y, l2) => some (.tup [.str "ask", a, b, n, y], l2)) else none
  | _ => none
theorem q6X {k : Nat} {d : DV} {l : List DV} : q2p (k + 1) d l = z1A (q2p k) d l := by
 unfold z1A
 rfl
theorem z1N {sg : Sg} {X : Cx} {E : St -> XK} {k : Nat} {b : List Stmt} {O : List Addr} {p : Addr} {v : V} {d : DV} {ds : List DV} {xs : List V} {r : DV × List DV} {H : Hp} {Dn : Ends} (g : Good sg hG (q3u k) X E) (hc : corH sg b = true) (hr : Room k X.A) (hm : X.mg q1l = some (.ref fa)) (hk : PySem.W.keepIn X.K (.ref fa) = true) (hb : q2T X.K fd ps [])
  (fo : FnOk X.prog X.w X.K X.mg X.base (CXx X.prog X.w X.base) k fa fd ps (spH X.D (q2p k))) (hp : p ∉ O) (hx : H p = some (.lst xs)) (R : RSt X.D H [some v, some (.ref p), none] (hδ d ds .no) O [p]) (hd : q2p (k + 1) d ds = some r)
  (kk : ∀ v' H' xs', Same (L2.wo [p] H) H' -> H' p = some (.lst xs') -> Rep X.D (L2.wo (O ++ [p]) H') r.1 v' -> RepL X.D (L2.wo (O ++ [p]) H') r.2 xs' -> Dn.rt v' H') : ∃ t, PSs X b t /\ t Dn [some v, some (.ref p), none] H := by
 have up : ∀ {H1}, Same H H1 -> Same (L2.wo [p] H) H1 := λ s => q1y.trans s
 unfold corH at hc
 split at hc
 ·rename_i c c2 e1 q1 q2 e2 q3 q4 x q5 e3 q6 e4 q7
  simp only [Bool.and_eq_true, Bool.not_eq_true', beq_iff_eq] at hc
  obtain ⟨⟨⟨⟨⟨⟨⟨⟨c1, c2'⟩, c3⟩, c4⟩, c5⟩, c6⟩, c7⟩, c8⟩, c9⟩ := hc
  rw [q6X] at hd
  unfold z1A at hd
  split at hd
  ·-- an end
   rename_i s y
   split at hd
   ·rename_i hcnd
    simp only [Bool.and_eq_true, decide_eq_true_eq] at hcnd
    obtain ⟨⟨hs, hpl⟩, hpd⟩ := hcnd
    have hsp : s.cps.all (· < 0x110000) = true := by rw [hs]; decide +kernel
    have t0 := h_c0 (F := q3u k) (r := [y]) (ds := ds) (x := .no) hsp rfl
    rw [decide_eq_true hs] at t0
    have C0 := (snd hm0).2.1 g c1 t0
    have C1 := (snd hm1).2.1 g c2' (h_c1 (F := q3u k) (d := .tup [.str s, y]) (x := .no) hpd)
    cases ds with
    | nil =>
     cases hd
     have A1 := (snd (.var 0)).1 (r := .ok (.tup [.str s, y]) .strong) (δ := hδ (.tup [.str s, y]) [] .no) g c3 rfl
     refine ⟨_, q1g (q5I C0 (q1g (q5I C1 (q1g (q3B A1) q3w) q0L) q0L) q0L) q0L, ?_⟩
     refine ⟨O, [p], R, λ H1 s1 => iteT ⟨O, [p], R.mono s1, λ H2 s2 => iteT ⟨O, [p], (R.mono s1).mono s2, λ v1 H3 s3 gt => ?_⟩⟩⟩
     have sm := (s1.trans s2).trans s3
     obtain ⟨a, xs', ds', z0, z1, z2, z3, z4⟩ := (R.mono sm).own 1 _ rfl
     cases z0
     cases z1
     exact kk v1 H3 xs' (up sm) z3 gt z4
    | cons y1 l' =>
     cases hd
     have PP := z3y (δ := hδ (.tup [.str s, y]) (y1 :: l') .no) g c4
     refine ⟨_, q1g (q5I C0 (q1g (q5I C1 q0L q3w) (q1g (q3B PP) q3w)) q0L) q0L, ?_⟩
     refine ⟨O, [p], R, λ H1 s1 => iteT ⟨O, [p], R.mono s1, λ H2 s2 => iteF ?_⟩⟩
     have sm := s1.trans s2
     obtain ⟨a, xs', ds', z0, z1, z2, z3, z4⟩ := (R.mono sm).own 1 _ rfl
     cases z0
     cases z1
     obtain ⟨x1, xr, w0, w1, w2⟩ := q0h.mp z4
     subst w0
     refine ⟨O, [p], p, xr, x1, R.mono sm, rfl, z3, λ H3 s3 => ?_⟩
     have hid : Same (L2.wo (O ++ [p]) H2) (L2.wo (O ++ [p]) (upd H3 p (.lst xr))) := λ b o e => by
      obtain ⟨hb, e⟩ := q0W e
      rw [q0t hb, q0v λ z => hb (by rw [z]; exact List.mem_append_right _ (List.mem_singleton.mpr rfl))]
      exact s3 b o e
     refine kk x1 _ xr (λ b o e => ?_) q0Q (w1.mono hid) (w2.mono hid)
     obtain ⟨hb, e⟩ := q0W e
     rw [q0v λ z => hb (List.mem_singleton.mpr z)]
     exact s3 b o (sm b o e)
   ·cases hd
  ·-- an ask
   rename_i s a1 a2 a3 a4
   split at hd
   ·rename_i hcnd
    simp only [Bool.and_eq_true, decide_eq_true_eq] at hcnd
    obtain ⟨hs, hsp⟩ := hcnd
    split at hd
    ·cases hd
    ·rename_i n l1 hd1
     split at hd
     ·cases hd
     ·rename_i y l2 hd2
      cases hd
      have t0 := h_c0 (F := q3u k) (r := [a1, a2, a3, a4]) (ds := ds) (x := .no) hsp rfl
      rw [decide_eq_false hs] at t0
      have C0 := (snd hm0).2.1 g c1 t0
      unfold hunC at c8
      split at c8
      ·rename_i ea1 hq1
       have A3 := (snd (.ix (.var 0) (.int 3))).1 (r := .ok a3 .strong) (δ := hδ (.tup [.str s, a1, a2, a3, a4]) ds .no) g c8 (q0s (q0b rfl) q0c rfl)
       have P1 := q4M g rfl hq1 rfl A3 rfl hr hm hk hb fo hd1
       split at c9
       ·rename_i b1 b2 b3 b4 b5 qt
        simp only [Bool.and_eq_true, Bool.not_eq_true'] at c9
        obtain ⟨⟨⟨⟨⟨⟨⟨⟨⟨f1, f2⟩, f3⟩, f4⟩, f5⟩, g1⟩, g2⟩, g3⟩, g4⟩, g5⟩ := c9
        obtain ⟨kt, pt, rfl⟩ := q2L qt
        unfold hunC at f5
        split at f5
        ·rename_i ea2 hq2
         let δ2 := hδ (.tup [.str s, a1, a2, a3, a4]) l1 (.val n)
         have B1 := (snd (.str "ask")).1 (r := .ok (.str "ask") .strong) (δ := δ2) g f1 rfl
         have B2 := (snd (.ix (.var 0) (.int 1))).1 (r := .ok a1 .strong) (δ := δ2) g f2 (q0s (q0b rfl) q0c rfl)
         have B3 := (snd (.ix (.var 0) (.int 2))).1 (r := .ok a2 .strong) (δ := δ2) g f3 (q0s (q0b rfl) q0c rfl)
         have B4 := (snd (.var 2)).1 (r := .ok n .strong) (δ := δ2) g f4 (q0b rfl)
         have A4 := (snd (.ix (.var 0) (.int 4))).1 (r := .ok a4 .strong) (δ := δ2) g f5 (q0s (q0b rfl) q0c rfl)
         have P2 := q4M (δ := δ2) g rfl hq2 rfl A4 rfl hr hm hk hb fo hd2
         have hloc := g.loc x c6
         refine ⟨_, q1g (q5I C0 q0L q3w) (q1g (q6t g.nd (by rw [g.N]; exact c5) hloc.1 P1 (q1X c7) hloc.2) (q1g (q3B (q7t (q0N B1 (q0N B2 (q0N B3 (q0N B4 (q0N P2 q2C (q0j g5)) (q0j g4)) (q0j g3)) (q0j g2)) (q0j g1)))) q3w)), ?_⟩
         refine ⟨O, [p], R, λ H1 s1 => iteF ?_⟩
         refine ⟨O, [p], p, R.mono s1, rfl, List.mem_singleton.mpr rfl, λ v1 H2 xs1 w1 w2 w3 w4 => ?_⟩
         have R2 : RSt X.D H2 [some v, some (.ref p), some v1] δ2 O [p] := ((R.mono s1).turn (i := 1) rfl rfl (List.mem_singleton.mpr rfl) w1 w2 w4).setVal w3 2
         refine ⟨O, [p], R2, λ u1 H3 s3 gt1 => ⟨O, [p], R2.mono s3, λ u2 H4 s4 gt2 => ⟨O, [p], (R2.mono s3).mono s4, λ u3 H5 s5 gt3 => ⟨O, [p], ((R2.mono s3).mono s4).mono s5, λ u4 H6 s6 gt4 => ⟨O, [p], p, (((R2.mono s3).mono s4).mono s5).mono s6, rfl, List.mem_singleton.mpr rfl, λ u5 H7 xs2 y1 y2 y3 y4 => ⟨show 5 <= sizeLine by decide, λ q hq => ?_⟩⟩⟩⟩⟩⟩
         have h76 : Same (L2.wo (O ++ [p]) H6) (L2.wo (O ++ [p]) H7) := q9D y1
         have hqp : q ≠ p := λ z => by rw [z, y2] at hq; cases hq
         have hqO : q ∉ O ++ [p] := λ z => by
          rcases List.mem_append.mp z with z | z
          ·have hne := (((((R2.mono s3).mono s4).mono s5).mono s6).hid.ot q (List.mem_append_left _ z))
           cases hH : H6 q with
           | none => exact hne hH
           | some o =>
            have := y1 q o (by rw [q0t (by rw [List.mem_singleton]; exact hqp)]; exact hH)
            rw [hq] at this; cases this
          ·exact hqp (List.mem_singleton.mp z)
         have hup : Same (L2.wo (O ++ [p]) H7) (L2.wo (O ++ [p]) (upd H7 q (.tup [u1, u2, u3, u4, u5]))) := (q0w hq).wo
         refine kk (.ref q) _ xs2 ?_ (by rw [q0v (Ne.symm hqp)]; exact y2) (q0T.mpr ⟨q, _, rfl, SqT.of (by rw [q0t hqO]; exact q0Q), ?_⟩) (y4.mono hup)
         ·refine Same.trans (q4f (q4f (up s1) w1) ?_) (q0w hq)
          exact q4f (q1y.trans (((s3.trans s4).trans s5).trans s6)) y1
         ·have m1 : Rep X.D (L2.wo (O ++ [p]) H3) (.str "ask") u1 := gt1
          have m2 : Rep X.D (L2.wo (O ++ [p]) H4) a1 u2 := gt2
          have m3 : Rep X.D (L2.wo (O ++ [p]) H5) a2 u3 := gt3
          have m4 : Rep X.D (L2.wo (O ++ [p]) H6) n u4 := gt4
          have n1 := Rep.mono hup (Rep.mono h76 (Rep.mono s6.wo (Rep.mono s5.wo (Rep.mono s4.wo m1))))
          have n2 := Rep.mono hup (Rep.mono h76 (Rep.mono s6.wo (Rep.mono s5.wo m2)))
          have n3 := Rep.mono hup (Rep.mono h76 (Rep.mono s6.wo m3))
          have n4 := Rep.mono hup (Rep.mono h76 m4)
          exact q0h.mpr ⟨_, _, rfl, n1, q0h.mpr ⟨_, _, rfl, n2, q0h.mpr ⟨_, _, rfl, n3, q0h.mpr ⟨_, _, rfl, n4, RepL.one (Rep.mono hup y3)⟩⟩⟩⟩
        ·cases f5
       ·cases c9
      ·cases c8
   ·cases hd
  ·cases hd
 ·cases hc
theorem q7D {qual : Str} {st : Stmt} {N : List Str} {k : Nat} (S : HStands K mg fa fd ps) (FS : FnScope N ps (q0e st)) (hN3 : N.length = 3) (hc : corH ⟨N, (q0e st).names, [], [], [], true, true⟩ (q0i st) = true)
  (ih : FnOk P w K mg base (CXx P w base) k fa fd ps (spH ⟨K, mg⟩ (q2p k))) (cdv : Value) (A : Around) (outer : List Env) (s : Shared) (H : Hp) (vs : List V) (Q : VK) (E : XK) (hr : Room k (A.deeper (envOfC qual (q0e st) s.heap.objs.size fa cdv))) (h : spH ⟨K, mg⟩ (q2p (k + 1)) vs H Q E) :
  ∃ t, PSs (cxD P w K mg base N qual (q0e st) fa cdv A outer s H E) (q0i st) t /\ t { nx := λ _ H' => Q .non H', rt := Q } (start N vs) H := by
 obtain ⟨O, p, v, d, ds, xs, r, rfl, ho, hp, hx, r1, r2, hd, kk⟩ := h
 have R := z1D ho hp hx r1 r2
 have hst : start N [v, .ref p] = [some v, some (.ref p), none] := by unfold start; rw [hN3]; rfl
 rw [hst]
 have g : Good ⟨N, (q0e st).names, [], [], [], true, true⟩ hG (q3u k) (cxD P w K mg base N qual (q0e st) fa cdv A outer s H E) (λ _ => E) := by
  refine ⟨rfl, FS.nd, λ y hy => ?_, λ y hy => ?_, λ y hy => ⟨?_, .inl rfl⟩, λ y hy => hy, λ y hy => hy, rfl, hr.units, λ f y hy => (by cases hy), (λ x hx => by cases hx), q4E.s, (λ x d h => by cases h), λ _ => PassesOwn.leaving, ⟨(λ c h => by cases h), (λ t h => by cases h)⟩, λ _ => ⟨rfl, rfl, rfl, q4v⟩, (λ x d h => by cases h), λ _ => ⟨k, fa, fd, ps, q2p k, hr, S.mg, S.kp, S.bi, λ d l => q7A, ih⟩⟩
  ·unfold visB at hy
   simp only [Bool.or_eq_true, beq_iff_eq] at hy
   rcases hy with (hy | hy) | hy
   ·exact .inl hy
   ·exact .inr (.inl hy)
   ·exact .inr (.inr hy)
  ·unfold gloB at hy
   rw [beq_iff_eq] at hy
   exact hy
  ·unfold locB at hy
   simp only [Bool.or_eq_true, beq_iff_eq] at hy
   exact hy
 exact z1N g hc hr S.mg S.kp S.bi ih hp hx R hd kk
theorem q7p (S : HStands K mg fa fd ps) : ∀ k, FnOk P w K mg base (CXx P w base) k fa fd ps (spH ⟨K, mg⟩ (q2p k))
 | 0 => by
  refine ⟨λ vs H Q E h => ?_, λ A outer s H args us vs Q E hr he hb hv h => ?_⟩
  ·obtain ⟨_, _, _, _, _, _, _, _, _, _, _, _, _, q, _⟩ := h
   cases q
  ·obtain ⟨_, _, _, _, _, _, _, _, _, _, _, _, _, q, _⟩ := h
   cases q
 | k + 1 => by
  obtain ⟨qual, st, N, F, FS, hn, hc⟩ := S.ex
  refine F.okX FS (λ vs H Q E h => ?_) (λ cdv A outer s H vs Q E hr h => q7D S FS hn hc (q7p S k) cdv A outer s H vs Q E hr h)
  obtain ⟨_, _, _, _, _, _, _, e, _⟩ := h
  rw [e, S.np]; rfl
end
end L2
end
section
namespace L2
open PySem PySem.Spec PyProof.Rows
theorem RSt.start {D : Dm} {H : Hp} {N : List Str} {ds : List DV} {vs : List V} {O : List Addr} {n : Nat} (hn : n = N.length) (r : RepL D (L2.wo O H) ds vs) (ho : ∀ a ∈ O, H a ≠ none) : RSt D H (L2.start N vs) (q0k n ds) O [] := by
 subst hn
 have ino : ∀ (i : Nat) ds', (q0k N.length ds)[i]? ≠ some (.own ds') := λ i ds' h => by
  unfold q0k at h
  by_cases hi : i < (ds.map Sv.val).length
  ·rw [List.getElem?_append_left hi, List.getElem?_map] at h
   cases q : ds[i]? with
   | none => rw [q] at h; cases h
   | some d => rw [q] at h; cases h
  ·rw [List.getElem?_append_right (by omega), List.getElem?_replicate] at h
   split at h <;> cases h
 have iot : ∀ (i : Nat) ds', (q0k N.length ds)[i]? ≠ some (.ot ds') := λ i ds' h => by
  unfold q0k at h
  by_cases hi : i < (ds.map Sv.val).length
  ·rw [List.getElem?_append_left hi, List.getElem?_map] at h
   cases q : ds[i]? with
   | none => rw [q] at h; cases h
   | some d => rw [q] at h; cases h
  ·rw [List.getElem?_append_right (by omega), List.getElem?_replicate] at h
   split at h <;> cases h
 have io2 : ∀ (i : Nat) ds', (q0k N.length ds)[i]? ≠ some (.o2 ds') := λ i ds' h => by
  unfold q0k at h
  by_cases hi : i < (ds.map Sv.val).length
  ·rw [List.getElem?_append_left hi, List.getElem?_map] at h
   cases q : ds[i]? with
   | none => rw [q] at h; cases h
   | some d => rw [q] at h; cases h
  ·rw [List.getElem?_append_right (by omega), List.getElem?_replicate] at h
   split at h <;> cases h
 refine ⟨λ i d h => ?_, λ i ds' h => absurd h (ino i ds'), λ i j a d1 d2 h => absurd h (ino i d1), λ i d h => absurd h (iot i d), λ i d h => absurd h (io2 i d), ?_, ⟨λ a ha => ho a (by simpa using ha), Same.refl _, λ a ha => (nomatch ha), λ a ha => (nomatch ha)⟩⟩
 ·unfold q0k at h
  by_cases hi : i < (ds.map Sv.val).length
  ·rw [List.getElem?_append_left hi, List.getElem?_map] at h
   cases q : ds[i]? with
   | none => rw [q] at h; cases h
   | some d' =>
    rw [q] at h
    cases h
    obtain ⟨v, e1, e2⟩ := r.get q
    refine ⟨v, ?_, by rw [List.append_nil]; exact e2⟩
    unfold L2.start
    rw [List.getElem?_append_left (by rw [List.length_map]; exact (List.getElem?_eq_some_iff.mp e1).1), List.getElem?_map, e1]
    rfl
  ·rw [List.getElem?_append_right (by omega), List.getElem?_replicate] at h
   split at h <;> cases h
 ·unfold L2.start q0k
  rw [List.length_append, List.length_append, List.length_map, List.length_map, List.length_replicate, List.length_replicate, r.length]
noncomputable def DfOk (G : Gs) (T : List FD) : Prop := (∀ f ds, G.dfl.lookup f = some ds -> ∃ d, T[f]? = some d /\ d.dfl = ds /\ ds ≠ []) /\ ∀ f n, G.kws.lookup f = some n -> ∃ d, T[f]? = some d /\ d.kn = some n
structure Stands (K : PySem.W.Frag) (mg : Str -> Option Value) (fn bl cl : List Str) (d : FD) (x : Str) (fa : Addr) (fd : FuncData) (ps : List Str) : Prop where
 dk : (d.dfl ≠ [] -> ∃ us dvs, q2T K fd ps us /\ Vals dvs us /\ ∀ H, RepL ⟨K, mg⟩ H d.dfl dvs) /\ ∀ n, d.kn = some n -> KBinds K fd ps [n] (q3E ps.length) (q3E ps.length)
 mg : mg x = some (.ref fa)
 kp : PySem.W.keepIn K (.ref fa) = true
 bi : q2T K fd ps []
 np : d.np = ps.length
 ex : ∃ qual st N, FunD K x qual st fa fd /\ FnScope N ps (q0e st) /\ d.n = N.length /\ q2Z ⟨N, (q0e st).names, fn, bl, cl, true, true⟩ d.body (q0i st) = true
section
variable {P : Program} {w : World} {K : PySem.W.Frag} {mg : Str -> Option Value} {base : Heap} {G : Gs} {T : List FD} {fu : Nat} {fn bl cl : List Str}
theorem z0c (hT : T.length = fn.length) (hs : ∀ (i : Nat) d x, T[i]? = some d -> fn[i]? = some x -> ∃ fa fd ps, Stands K mg fn bl cl d x fa fd ps) (hbl : ∀ x ∈ bl, mg x = none) (hxf : XFacts K mg G cl)
  (hcon : ∀ x d, G.con.lookup x = some d -> ∃ u v, mg x = some u /\ RelV v u /\ ∀ H, Rep ⟨K, mg⟩ H d v) (hdc : ∀ x kvs, G.dcs.lookup x = some kvs -> q7z K w mg x kvs) (hdf : DfOk G T) (hh : G.hun = true -> T.length <= q2D /\ ∃ fa fd ps, HStands K mg fa fd ps) : ∀ (k i : Nat) d x fa fd ps, T[i]? = some d -> fn[i]? = some x -> Stands K mg fn bl cl d x fa fd ps ->
  FnOk P w K mg base (CXx P w base) k fa fd ps (spF ⟨K, mg⟩ ps.length (run G T fu k i))
 | 0, i, d, x, fa, fd, ps, h1, h2, S => by
  refine ⟨λ vs H Q E h => ?_, λ A outer s H args us vs Q E hr he hb hv h => ?_⟩
  ·obtain ⟨_, _, _, _, _, _, q, _⟩ := h
   cases q
  ·obtain ⟨_, _, _, _, _, _, q, _⟩ := h
   cases q
 | k + 1, i, d, x, fa, fd, ps, h1, h2, S => by
  obtain ⟨qual, st, N, F, FS, hn, hc⟩ := S.ex
  refine F.okX FS (λ vs H Q E h => ?_) (λ cdv A outer s H vs Q E hr h => ?_)
  ·obtain ⟨O, ds, o, _, e1, e2, _⟩ := h
   rw [e2.length, e1]
  ·obtain ⟨O, ds, o, ho, e1, e2, e3, e4⟩ := h
   have e3' : (match T[i]? with | none => q3u (k + 1) i ds | some fd => if ds.length = fd.np then Ou.of (evSs G (run G T fu k) fu fd.body (q0k fd.n ds)) else none) = some o := e3
   rw [h1] at e3'
   have e3'' : (if ds.length = d.np then Ou.of (evSs G (run G T fu k) fu d.body (q0k d.n ds)) else none) = some o := e3'
   rw [if_pos (e1.trans S.np.symm)] at e3''
   have g : Good ⟨N, (q0e st).names, fn, bl, cl, true, true⟩ G (run G T fu k) (cxD P w K mg base N qual (q0e st) fa cdv A outer s H E) (λ _ => E) := by
    refine ⟨rfl, FS.nd, λ y hy => ?_, λ y hy => ?_, λ y hy => ⟨?_, .inl rfl⟩, λ y hy => hy, λ y hy => hy, rfl, hr.units, λ f y hy => ?_, hbl, q4E.s, hcon, λ _ => PassesOwn.leaving, hxf, λ _ => ⟨rfl, rfl, rfl, q4v⟩, hdc, λ z => by
     obtain ⟨hl, fa', fd', ps', S'⟩ := hh z
     refine ⟨k, fa', fd', ps', q2p k, hr, S'.mg, S'.kp, S'.bi, λ d l => ?_, q7p S' k⟩
     cases k with
     | zero => rfl
     | succ k =>
      show (match T[q2D]? with | none => q3u (k + 1) q2D [d, .lst l] | some fd => if [d, .lst l].length = fd.np then Ou.of (evSs G (run G T fu k) fu fd.body (q0k fd.n [d, .lst l])) else none) = _
      rw [List.getElem?_eq_none hl]
      exact q7A⟩
    ·unfold visB at hy
     simp only [Bool.or_eq_true, beq_iff_eq] at hy
     rcases hy with (hy | hy) | hy
     ·exact .inl hy
     ·exact .inr (.inl hy)
     ·exact .inr (.inr hy)
    ·unfold gloB at hy
     rw [beq_iff_eq] at hy
     exact hy
    ·unfold locB at hy
     simp only [Bool.or_eq_true, beq_iff_eq] at hy
     exact hy
    ·have hf : f < T.length := by rw [hT]; exact (List.getElem?_eq_some_iff.mp hy).1
     obtain ⟨d', hd'⟩ : ∃ d', T[f]? = some d' := ⟨_, List.getElem?_eq_getElem hf⟩
     obtain ⟨fa', fd', ps', S'⟩ := hs f d' y hd' hy
     refine ⟨k, fa', fd', ps', hr, S'.mg, S'.kp, S'.bi, λ ds o q => ?_, z0c hT hs hbl hxf hcon hdc hdf hh k f d' y fa' fd' ps' hd' hy S', ?_, ?_⟩
     rotate_left
     ·intro ds q
      obtain ⟨d2, q1, q2, q3⟩ := hdf.1 f ds q
      rw [hd'] at q1; cases q1
      have := S'.dk.1 (by rw [q2]; exact q3)
      rw [q2] at this
      exact this
     ·intro n q
      obtain ⟨d2, q1, q2⟩ := hdf.2 f n q
      rw [hd'] at q1; cases q1
      exact S'.dk.2 n q2
     cases k with
     | zero => cases q
     | succ k =>
      have q' : (match T[f]? with | none => q3u (k + 1) f ds | some fd => if ds.length = fd.np then Ou.of (evSs G (run G T fu k) fu fd.body (q0k fd.n ds)) else none) = some o := q
      rw [hd'] at q'
      have q'' : (if ds.length = d'.np then Ou.of (evSs G (run G T fu k) fu d'.body (q0k d'.n ds)) else none) = some o := q'
      split at q''
      ·rename_i z; rw [z, S'.np]
      ·cases q''
   cases ho' : evSs G (run G T fu k) fu d.body (q0k d.n ds) with
   | none => rw [ho'] at e3''; cases e3''
   | some oo =>
    rw [ho'] at e3''
    refine ⟨_, q2y d.body g hc ho', H, O, [], RSt.start hn e2 ho, (λ a ha => (nomatch ha)), ho, Same.refl H, ?_⟩
    cases oo with
    | nx δ => cases e3''; exact λ σ' H' W R fr sm => e4 .non H' sm (show Rep ⟨K, mg⟩ (L2.wo O H') .non .non by unfold Rep; rfl)
    | rt d fr => cases e3''; exact λ v H' sm gt => e4 v H' sm gt
    | rtt d => cases e3''; exact λ v H' sm gt => e4 v H' sm gt
    | ex c δ => cases e3''; exact λ σ' H' W C hm R fr sm => e4 H' C hm sm
end
end L2
end
section
namespace L2
open PySem PySem.Spec PyProof.Rows
noncomputable def okD (fn bl cl : List Str) (d : FD) (N ps : List Str) (st : Stmt) : Bool :=
 (q0e st).kind == .function && !(q0e st).isCoroutine && !(q0e st).isGenerator && q3Y N && (N.take ps.length == ps) &&
 ps.all (λ x => (q0e st).names.lookup x == some .local || (q0e st).names.lookup x == some .cell) && (q0e st).names.all (λ y => !(y.2 == .free)) &&
 d.n == N.length && d.np == ps.length && q2Z ⟨N, (q0e st).names, fn, bl, cl, true, true⟩ d.body (q0i st)
section
variable {P : Program} {w : World} {K : PySem.W.Frag} {mg : Str -> Option Value} {base h : Heap} {G : Gs} {T : List FD} {fu : Nat} {fn bl cl : List Str}
theorem q7l {d : FD} {x : Str} {N ps : List Str} {st : Stmt} {f : Addr} {oc : Value} {od an : Option Addr} {osl : Array (Option Value)} {dV kV doc pm cdv ct : Value} (X : K.In h) (Ns : h.Ns mainGlobals mg) (ok : okD fn bl cl d N ps st = true)
  (a : PySem.W.nsIn K mainGlobals x = some (some (.ref f))) (l : K.lookup f = some ⟨oc, od, .func (PySem.W.fnOf x x (q0n st) (q0i st) (q0e st) dV kV doc pm an cdv ct), osl⟩)
  (c : PySem.W.codeIn K cdv x = true) (k : PySem.W.keepIn K (.ref f) = true)
  (hb : q2T K (PySem.W.fnOf x x (q0n st) (q0i st) (q0e st) dV kV doc pm an cdv ct) ps [])
  (dk : (d.dfl ≠ [] -> ∃ us dvs, q2T K (PySem.W.fnOf x x (q0n st) (q0i st) (q0e st) dV kV doc pm an cdv ct) ps us /\ Vals dvs us /\ ∀ H, RepL ⟨K, mg⟩ H d.dfl dvs) /\ ∀ n, d.kn = some n -> KBinds K (PySem.W.fnOf x x (q0n st) (q0i st) (q0e st) dV kV doc pm an cdv ct) ps [n] (q3E ps.length) (q3E ps.length)) :
  Stands K mg fn bl cl d x f (PySem.W.fnOf x x (q0n st) (q0i st) (q0e st) dV kV doc pm an cdv ct) ps := by
 unfold okD at ok
 simp only [Bool.and_eq_true, beq_iff_eq, Bool.not_eq_true', List.all_eq_true, Bool.or_eq_true, beq_eq_false_iff_ne] at ok
 obtain ⟨⟨⟨⟨⟨⟨⟨⟨⟨h1, h2⟩, h3⟩, h4⟩, h5⟩, h6⟩, h7⟩, h8⟩, h9⟩, h10⟩ := ok
 exact ⟨dk, PySem.W.mg_of X Ns a, k, hb, h9, x, st, N, ⟨oc, od, dV, kV, doc, pm, an, cdv, ct, osl, rfl, l, c⟩, ⟨h1, h2, h3, q2e h4, h5, h6, h7⟩, h8, h10⟩
theorem q0q {d : FD} {x : Str} {N ps : List Str} {st : Stmt} {f : Addr} {oc : Value} {od an : Option Addr} {osl : Array (Option Value)} {kV doc pm cdv ct : Value} (X : K.In h) (Ns : h.Ns mainGlobals mg) (ok : okD fn bl cl d N ps st = true)
  (a : PySem.W.nsIn K mainGlobals x = some (some (.ref f))) (l : K.lookup f = some ⟨oc, od, .func (PySem.W.fnOf x x (q0n st) (q0i st) (q0e st) .none kV doc pm an cdv ct), osl⟩)
  (c : PySem.W.codeIn K cdv x = true) (k : PySem.W.keepIn K (.ref f) = true)
  (hb : ∀ (kV doc pm : Value) (an : Option Addr) (cdv ct : Value) (us : List Value), us.length = ps.length -> bindArgs (PySem.W.fnOf x x (q0n st) (q0i st) (q0e st) .none kV doc pm an cdv ct) ⟨us, []⟩ = pure (ps.zip us)) (e1 : d.dfl = [] := by rfl) (e2 : d.kn = none := by rfl) :
  Stands K mg fn bl cl d x f (PySem.W.fnOf x x (q0n st) (q0i st) (q0e st) .none kV doc pm an cdv ct) ps :=
 q7l X Ns ok a l c k (.all (hb kV doc pm an cdv ct)) ⟨λ z => absurd e1 z, λ n z => by rw [e2] at z; cases z⟩
theorem z3l {fd : FuncData} {ps : List Str} {n : Str} (h : ∀ (s : Shared) (us : List Value) (w : Value), K.In s.heap -> us.length + 1 = ps.length -> BindsTo s fd ⟨us, [(n, w)]⟩ (ps.zip (us ++ [w]))) (hp : ps ≠ []) : KBinds K fd ps [n] (q3E ps.length) (q3E ps.length) := by
 refine ⟨λ s us ws hK hl => ?_, λ r q => q7G r q⟩
 unfold q3E at hl ⊢
 split at hl
 ·rename_i c
  rw [if_pos c]
  obtain ⟨w, rfl⟩ := List.length_eq_one_iff.mp c.2
  exact h s us w hK c.1
 ·exact absurd (List.length_eq_zero_iff.mp hl.symm) hp
theorem z0N {G : Gs} {T : List FD} (e1 : G.dfl = [] := by rfl) (e2 : G.kws = [] := by rfl) : DfOk G T := ⟨λ f ds q => (by rw [e1] at q; cases q), λ f n q => (by rw [e2] at q; cases q)⟩
theorem z3Q {G : Gs} {p : Prop} (e : G.hun = false := by rfl) : G.hun = true -> p := λ z => by rw [e] at z; cases z
noncomputable def okH (N ps : List Str) (st : Stmt) : Bool :=
 (q0e st).kind == .function && !(q0e st).isCoroutine && !(q0e st).isGenerator && q3Y N && (N.take ps.length == ps) &&
 ps.all (λ x => (q0e st).names.lookup x == some .local || (q0e st).names.lookup x == some .cell) && (q0e st).names.all (λ y => !(y.2 == .free)) &&
 N.length == 3 && ps.length == 2 && corH ⟨N, (q0e st).names, [], [], [], true, true⟩ (q0i st)
theorem q7f {N ps : List Str} {st : Stmt} {f : Addr} {oc : Value} {od an : Option Addr} {osl : Array (Option Value)} {kV doc pm cdv ct : Value} (X : K.In h) (Ns : h.Ns mainGlobals mg) (ok : okH N ps st = true)
  (a : PySem.W.nsIn K mainGlobals q1l = some (some (.ref f))) (l : K.lookup f = some ⟨oc, od, .func (PySem.W.fnOf q1l q1l (q0n st) (q0i st) (q0e st) .none kV doc pm an cdv ct), osl⟩)
  (c : PySem.W.codeIn K cdv q1l = true) (k : PySem.W.keepIn K (.ref f) = true)
  (hb : ∀ (kV doc pm : Value) (an : Option Addr) (cdv ct : Value) (us : List Value), us.length = ps.length -> bindArgs (PySem.W.fnOf q1l q1l (q0n st) (q0i st) (q0e st) .none kV doc pm an cdv ct) ⟨us, []⟩ = pure (ps.zip us)) :
  HStands K mg f (PySem.W.fnOf q1l q1l (q0n st) (q0i st) (q0e st) .none kV doc pm an cdv ct) ps := by
 unfold okH at ok
 simp only [Bool.and_eq_true, beq_iff_eq, Bool.not_eq_true', List.all_eq_true, Bool.or_eq_true, beq_eq_false_iff_ne] at ok
 obtain ⟨⟨⟨⟨⟨⟨⟨⟨⟨h1, h2⟩, h3⟩, h4⟩, h5⟩, h6⟩, h7⟩, h8⟩, h9⟩, h10⟩ := ok
 exact ⟨PySem.W.mg_of X Ns a, k, .all (hb kV doc pm an cdv ct), h9, q1l, st, N, ⟨oc, od, .none, kV, doc, pm, an, cdv, ct, osl, rfl, l, c⟩, ⟨h1, h2, h3, q2e h4, h5, h6, h7⟩, h8, h10⟩
noncomputable def HS (K : PySem.W.Frag) (mg : Str -> Option Value) (fn bl cl : List Str) (T : List FD) (fs : List Str) : Prop := ∀ (i : Nat) d x, T[i]? = some d -> fs[i]? = some x -> ∃ fa fd ps, Stands K mg fn bl cl d x fa fd ps
theorem z3C {fs : List Str} : HS K mg fn bl cl [] fs := λ i d x h => by cases h
theorem q0M {d : FD} {x : Str} {fs : List Str} {fa : Addr} {fd : FuncData} {ps : List Str} (h : Stands K mg fn bl cl d x fa fd ps) (t : HS K mg fn bl cl T fs) : HS K mg fn bl cl (d :: T) (x :: fs) := λ i d' x' h1 h2 => by
 cases i with
 | zero => cases h1; cases h2; exact ⟨_, _, _, h⟩
 | succ i => exact t i d' x' h1 h2
theorem z2M {H : Hp} : L2.wo [] H = H := by
 funext b
 unfold L2.wo
 simp
noncomputable def HC (K : PySem.W.Frag) (mg : Str -> Option Value) (c : List (Str × DV)) : Prop := ∀ x d, c.lookup x = some d -> ∃ u v, mg x = some u /\ RelV v u /\ ∀ H, Rep ⟨K, mg⟩ H d v
theorem z0E : HC K mg [] := λ x d h => by cases h
theorem q3J {c : List (Str × DV)} {y : Str} {d : DV} (h : ∃ u v, mg y = some u /\ RelV v u /\ ∀ H, Rep ⟨K, mg⟩ H d v) (t : HC K mg c) : HC K mg ((y, d) :: c) := λ x d' q => by
 rw [List.lookup_cons] at q
 split at q
 ·rename_i e
  cases q
  rw [eq_of_beq e]
  exact h
 ·exact t x d' q
noncomputable def OneL (K : PySem.W.Frag) (mg : Str -> Option Value) (G : Gs) (cl : List Str) (l : List (Str × List Str)) : Prop := ∀ c, (l.lookup c).isSome = true -> ∃ C, XOne K mg G cl c C
theorem z1x {cl : List Str} : OneL K mg G cl [] := λ c h => by cases h
theorem q3f {cl : List Str} {c : Str} {b : List Str} {l : List (Str × List Str)} (h : ∃ C, XOne K mg G cl c C) (t : OneL K mg G cl l) : OneL K mg G cl ((c, b) :: l) := λ c' q => by
 rw [List.lookup_cons] at q
 split at q
 ·rename_i e
  rw [eq_of_beq e]
  exact h
 ·exact t c' q
noncomputable def AllL (mg : Str -> Option Value) (l : List Str) : Prop := ∀ t ∈ l, ∃ Ct, mg t = some (.ref Ct)
theorem z1n : AllL mg [] := λ t h => by cases h
theorem all_cons {t : Str} {l : List Str} (h : ∃ Ct, mg t = some (.ref Ct)) (r : AllL mg l) : AllL mg (t :: l) := λ t' q => by
 rcases List.mem_cons.mp q with e | e
 ·rw [e]; exact h
 ·exact r t' e
noncomputable def OwnL (K : PySem.W.Frag) (mg : Str -> Option Value) (G : Gs) (c : Str) (C : Addr) (l : List Str) : Prop := ∀ t ∈ l, ∀ Ct, mg t = some (.ref Ct) -> PySem.W.kitOne K (.ref C) (.ref Ct) = some (q1I G c t) /\ (q1I G c t = true -> PySem.W.exmOne K (.ref C) (.ref Ct) = some true)
theorem q3V {c : Str} {C : Addr} : OwnL K mg G c C [] := λ t h => by cases h
theorem q0u {c t : Str} {C Ct : Addr} {l : List Str} (m : mg t = some (.ref Ct)) (h : PySem.W.kitOne K (.ref C) (.ref Ct) = some (q1I G c t) /\ (q1I G c t = true -> PySem.W.exmOne K (.ref C) (.ref Ct) = some true)) (r : OwnL K mg G c C l) : OwnL K mg G c C (t :: l) := λ t' q Ct' m' => by
 rcases List.mem_cons.mp q with e | e
 ·subst e
  cases m.symm.trans m'
  exact h
 ·exact r t' e Ct' m'
noncomputable def spS (K : PySem.W.Frag) : Sp := λ vs H Q _ => ∃ (a : Addr) (ns : List Int), vs = [.ref a] /\ ns.length <= 63 /\ SqS K H a (ns.map V.int) /\ ∀ H', Q (.bl true) H'
noncomputable def DCL (K : PySem.W.Frag) (w : World) (mg : Str -> Option Value) (l : List (Str × List (Str × Str))) : Prop := ∀ x kvs, l.lookup x = some kvs -> q7z K w mg x kvs
theorem z1s {w : World} : DCL K w mg [] := λ x kvs h => by cases h
theorem z3P {w : World} {y : Str} {kv : List (Str × Str)} {l : List (Str × List (Str × Str))} (h : q7z K w mg y kv) (t : DCL K w mg l) : DCL K w mg ((y, kv) :: l) := λ x kvs q => by
 rw [List.lookup_cons] at q
 split at q
 ·rename_i e
  cases q
  rw [beq_iff_eq.mp e]
  exact h
 ·exact t x kvs q
noncomputable def KVL (K : PySem.W.Frag) (a : Addr) (l : List (Str × Str)) : Prop := ∀ k v, l.lookup k = some v -> v.length <= sizeLine /\ ∃ t, PySem.W.nsIn K a k = some (some (.str v t))
theorem z4f {a : Addr} : KVL K a [] := λ k v h => by cases h
theorem z3R {a : Addr} {k v : Str} {t : Tok} {l : List (Str × Str)} (h1 : v.length <= sizeLine) (h2 : PySem.W.nsIn K a k = some (some (.str v t))) (r : KVL K a l) : KVL K a ((k, v) :: l) := λ k' v' q => by
 rw [List.lookup_cons] at q
 split at q
 ·rename_i e
  cases q
  rw [beq_iff_eq.mp e]
  exact ⟨h1, t, h2⟩
 ·exact r k' v' q
theorem q9P {k i : Nat} {d : FD} {x p : Str} {fa : Addr} {fd : FuncData} (hT : T.length = fn.length) (hs : HS K mg fn bl cl T fn) (hbl : ∀ x ∈ bl, mg x = none) (hxf : XFacts K mg G cl)
  (hcon : ∀ x d, G.con.lookup x = some d -> ∃ u v, mg x = some u /\ RelV v u /\ ∀ H, Rep ⟨K, mg⟩ H d v) (hdc : ∀ x kvs, G.dcs.lookup x = some kvs -> q7z K w mg x kvs) (hdf : DfOk G T) (hh : G.hun = true -> T.length <= q2D /\ ∃ fa fd ps, HStands K mg fa fd ps) (h1 : T[i]? = some d) (h2 : fn[i]? = some x) (S : Stands K mg fn bl cl d x fa fd [p])
  (law : ∀ ns : List Int, ns.length <= 63 -> run G T fu k i [.scr ns] = some (.v (.bl true) false)) : FnOk P w K mg base CX0 k fa fd [p] (spS K) := by
 have R := z0c (P := P) (w := w) (base := base) (fu := fu) hT hs hbl hxf hcon hdc hdf hh k i d x fa fd [p] h1 h2 S
 refine ⟨λ vs H Q E h => ?_, λ A outer s H args us vs Q E hr he hb hv h => ?_⟩
 ·obtain ⟨a, ns, rfl, _⟩ := h
  rfl
 ·obtain ⟨a, ns, rfl, hl, hS, hq⟩ := h
  refine codeAny_mono (R.run A outer s H args us [.ref a] Q E0 hr he hb hv ⟨[], [.scr ns], _, (λ a ha => (nomatch ha)), rfl, ?_, law ns hl, λ v H' _ g => ?_⟩) λ r s' q => ?_
  ·refine RepL.one (q1S.mpr ⟨a, rfl, ?_⟩)
   rw [z2M]
   exact hS
  ·have g' : Rep ⟨K, mg⟩ (L2.wo [] H') (.bl true) v := g
   rw [q3x] at g'
   subst g'
   exact hq H'
  ·cases r with
   | error e =>
    obtain ⟨_, _, _, _, _, _, _, _, _, _, z⟩ := (q : CXx P w base outer H s E0 e s')
    exact z.elim
   | ok fl => cases fl <;> first | exact False.elim q | exact q
end
theorem walkE {l : PySem.W.OpenLaw} {q : Program} {loose : List Str} {XP : (Str -> Option Value) -> Heap -> Prop} {YP : World -> Heap -> Prop} {d : DefRec} {K : Params -> PySem.W.Frag} {k : Nat} {p : Str} (hn : l.most = some 63) (hdf : d.params.defaults = []) (hr : Room k callerA)
  (hY : ∀ (w : World) (h : Heap), YP w h -> (K w.params).In h)
  (F : ∀ (w : World) (mg : Str -> Option Value) (fa : Addr) (h : Heap), (K w.params).In h -> h.Ns mainGlobals mg -> mg d.name = some (.ref fa) ->
   ∃ fd : FuncData, (∀ (s : Shared) (u : Value), BindsTo s fd ⟨[u], []⟩ [(p, u)]) /\ ∀ base : Heap, (K w.params).In base -> base.Ns mainGlobals mg -> FnOk l.prog w (K w.params) mg base CX0 k fa fd [p] (spS (K w.params))) :
  PySem.W.WalkO q loose XP YP l.row.toRowW d [] (λ f vs => PySem.call f vs) :=
 L2.walk_of (n := 63) (k := k) (x := p) (CX := λ _ => CX0) (sp := λ w => spS (K w.params)) hn (by decide) hdf hr hY F (λ _ _ a ns hl hO hS => ⟨a, ns, rfl, hl, SqS.of hO hS, λ _ => rfl⟩) λ _ _ _ _ _ z => z
end L2
end
section
namespace k11
open PySem L2
noncomputable def q1r : FD := { n := 3, np := 3, dfl := [], body := [.ret (.and [.isi (.var 0) ["int"], .not (.isi (.var 0) ["bool"]), .chain .LtE .LtE (.var 1) (.var 0) (.var 2)])] }
noncomputable def q1d : FD := { n := 1, np := 1, dfl := [], body := [.iff (.not (.call 2 [.var 0, .glb "MOST_ASKS_DEEP"])) [.rse "NoPlan" (.str "a plan is an end or an ask, with at most 12 asks one within another")] [], .iff (.cmp .Gt (.call 8 [.var 0]) (.bin .Add (.glb "MOST_ASKS") (.int 1))) [.rse "NoPlan" (.str "a plan has at most 300 asks")] [], .ret (.var 0)] }
noncomputable def q0F : FD := { n := 2, np := 2, dfl := [], body := [.iff (.call 3 [.var 0]) [.ret (.bl true)] [], .ret (.and [.cmp .Gt (.var 1) (.int 0), .call 4 [.var 0], .call 2 [.ix (.var 0) (.int 3), .bin .Sub (.var 1) (.int 1)], .call 2 [.ix (.var 0) (.int 4), .bin .Sub (.var 1) (.int 1)]])] }
noncomputable def q1k : FD := { n := 1, np := 1, dfl := [], body := [.ret (.and [.call 5 [.var 0, .int 2], .call 6 [.ix (.var 0) (.int 0), .str "end"], .call 0 [.ix (.var 0) (.int 1), .int 0, .glb "GREATEST_WORD"]])] }
noncomputable def q1j : FD := { n := 1, np := 1, dfl := [], body := [.iff (.or [.not (.call 5 [.var 0, .int 5]), .not (.call 6 [.ix (.var 0) (.int 0), .str "ask"])]) [.ret (.bl false)] [], .ret (.and [.or [.call 6 [.ix (.var 0) (.int 1), .str "row"], .call 6 [.ix (.var 0) (.int 1), .str "column"]], .call 0 [.ix (.var 0) (.int 2), .int 1, .glb "ALL_CARDS"]])] }
noncomputable def q1C : FD := { n := 2, np := 2, dfl := [], body := [.ret (.and [.isi (.var 0) ["tuple"], .cmp .Eq (.bi .len [.var 0]) (.var 1)])] }
noncomputable def q2b : FD := { n := 2, np := 2, dfl := [], body := [.ret (.and [.isi (.var 0) ["str"], .cmp .Eq (.var 0) (.var 1)])] }
noncomputable def q1Y : FD := { n := 1, np := 1, dfl := [], body := [.iff (.cmp .Eq (.ix (.var 0) (.int 0)) (.str "end")) [.ret (.int 0)] [], .ret (.bin .Add (.int 1) (.bi .max [.call 7 [.ix (.var 0) (.int 3)], .call 7 [.ix (.var 0) (.int 4)]]))] }
noncomputable def q1h : FD := { n := 1, np := 1, dfl := [], body := [.iff (.cmp .Eq (.ix (.var 0) (.int 0)) (.str "end")) [.ret (.int 1)] [], .ret (.bin .Add (.call 8 [.ix (.var 0) (.int 3)]) (.call 8 [.ix (.var 0) (.int 4)]))] }
noncomputable def q2I : FD := { n := 1, np := 1, dfl := [], body := [.ret (.and [.isi (.var 0) ["int"], .not (.isi (.var 0) ["bool"])])] }
noncomputable def q1w : FD := { n := 2, np := 2, dfl := [], body := [.iff (.cmp .Lt (.var 1) (.bi .len [.var 0])) [.ret (.ix (.var 0) (.var 1))] [], .ret (.int 0)] }
noncomputable def q1A : FD := { n := 5, np := 2, dfl := [], body := [.set 2 true (.lst []), .set 3 false (.bin .Add (.bin .Mod (.var 0) (.int 2147483647)) (.int 48271)), .fo (.one 4) (.rng [.var 1]) [.set 3 false (.bin .Mod (.bin .Add (.bin .Add (.bin .Mult (.var 3) (.int 48271)) (.bin .Mult (.var 4) (.var 4))) (.int 11)) (.int 2147483647)), .app 2 (.bin .FloorDiv (.var 3) (.int 7))], .ret (.var 2)] }
noncomputable def q1e : FD := { n := 8, np := 4, dfl := [], body := [.set 4 false (.ix (.var 0) (.bin .Mod (.var 1) (.bi .len [.var 0]))), .iff (.or [.cmp .Eq (.var 2) (.int 0), .and [.cmp .Eq (.bin .Mod (.var 4) (.int 7)) (.int 0), .cmp .Lt (.var 2) (.var 3)]]) [.ret (.tup [.str "end", .bin .Mod (.bin .FloorDiv (.var 4) (.int 7)) (.int 10)])] [], .set 5 false (.ix (.lst [.str "row", .str "column"]) (.bin .Mod (.bin .FloorDiv (.var 4) (.int 7)) (.int 2))), .set 6 false (.bin .Add (.int 1) (.bin .Mod (.bin .FloorDiv (.var 4) (.int 14)) (.int 255))), .set 7 false (.call 12 [.var 0, .bin .Add (.bin .Mult (.int 2) (.var 1)) (.int 1), .bin .Sub (.var 2) (.int 1), .var 3]), .ret (.tup [.str "ask", .var 5, .var 6, .var 7, .call 12 [.var 0, .bin .Add (.bin .Mult (.int 2) (.var 1)) (.int 2), .bin .Sub (.var 2) (.int 1), .var 3]])] }
noncomputable def q1b : FD := { n := 6, np := 2, dfl := [], body := [.set 2 false (.tup [.str "end", .bin .Mod (.ix (.var 0) (.int 0)) (.int 10)]), .fo (.one 3) (.rng [.var 1]) [.set 4 false (.tup [.str "end", .bin .Mod (.ix (.var 0) (.bin .Mod (.bin .Add (.var 3) (.int 1)) (.bi .len [.var 0]))) (.int 10)]), .set 5 false (.ix (.lst [.str "row", .str "column"]) (.bin .Mod (.ix (.var 0) (.bin .Mod (.var 3) (.bi .len [.var 0]))) (.int 2))), .iff (.cmp .Eq (.bin .Mod (.ix (.var 0) (.bin .Mod (.bin .Add (.var 3) (.int 2)) (.bi .len [.var 0]))) (.int 2)) (.int 0)) [.set 2 false (.tup [.str "ask", .var 5, .bin .Add (.int 1) (.bin .Mod (.ix (.var 0) (.bin .Mod (.var 3) (.bi .len [.var 0]))) (.int 255)), .var 2, .var 4])] [.set 2 false (.tup [.str "ask", .var 5, .bin .Add (.int 1) (.bin .Mod (.ix (.var 0) (.bin .Mod (.var 3) (.bi .len [.var 0]))) (.int 255)), .var 4, .var 2])]], .ret (.var 2)] }
noncomputable def q1u : FD := { n := 3, np := 2, dfl := [], body := [.iff (.cmp .Eq (.var 1) (.int 0)) [.ret (.tup [.str "end", .bin .Mod (.ix (.var 0) (.int 0)) (.int 10)])] [], .set 2 false (.call 14 [.var 0, .bin .Sub (.var 1) (.int 1)]), .ret (.tup [.str "ask", .ix (.lst [.str "row", .str "column"]) (.bin .Mod (.var 1) (.int 2)), .bin .Add (.int 1) (.bin .Mod (.ix (.var 0) (.bin .Mod (.var 1) (.bi .len [.var 0]))) (.int 255)), .var 2, .var 2])] }
noncomputable def q1M : FD := { n := 5, np := 1, dfl := [], body := [.set 1 false (.bin .Add (.int 43) (.bin .Mod (.ix (.var 0) (.int 1)) (.int 6))), .set 2 true (.lst []), .fo (.many [3, 4]) (.lst [.tup [.int 4, .int 15], .tup [.int 4, .int 15], .tup [.int 4, .int 15], .tup [.int 3, .int 7], .tup [.int 3, .int 7], .tup [.int 2, .int 3], .tup [.int 2, .int 3], .tup [.int 1, .int 1], .tup [.int 1, .int 1]]) [.iff (.cmp .LtE (.var 4) (.var 1)) [.set 1 false (.bin .Sub (.var 1) (.var 4)), .app 2 (.call 14 [.slf (.var 0) (.var 3), .var 3])] []], .rhg 2 (.call 14 [.var 0, .int 8])] }
noncomputable def q1a : FD := { n := 3, np := 1, dfl := [], body := [.iff (.cmp .Eq (.ix (.var 0) (.int 0)) (.str "end")) [.ret (.tup [.int 0, .int 0])] [], .set 1 false (.call 17 [.ix (.var 0) (.int 3)]), .set 2 false (.call 17 [.ix (.var 0) (.int 4)]), .ret (.tup [.bin .Add (.int 1) (.bi .max [.ix (.var 1) (.int 0), .ix (.var 2) (.int 0)]), .bin .Add (.bin .Add (.int 1) (.ix (.var 1) (.int 1))) (.ix (.var 2) (.int 1))])] }
noncomputable def q2K : FD := { n := 4, np := 2, dfl := [], body := [.set 2 false (.tup [.str "end", .int 1]), .set 3 false (.lst [.tup [.str "end", .int 10], .tup [.str "end", .neg (.int 1)], .tup [.str "end", .bl true], .tup [.str "end"], .tup [.str "End", .int 1], .tup [.str "end", .int 1, .int 1], .lst [.str "end", .int 1], .str "end", .non, .int 3]), .set 3 false (.bin .Add (.var 3) (.lst [.tup [.str "ask", .str "row", .int 0, .var 2, .var 1], .tup [.str "ask", .str "row", .int 256, .var 2, .var 1], .tup [.str "ask", .str "row", .bl true, .var 2, .var 1]])), .set 3 false (.bin .Add (.var 3) (.lst [.tup [.str "ask", .str "rows", .int 1, .var 2, .var 1], .tup [.str "ask", .int 0, .int 1, .var 2, .var 1], .tup [.str "ask", .str "column", .int 1, .var 2]])), .set 3 false (.bin .Add (.var 3) (.lst [.tup [.str "ask", .str "column", .int 1, .var 2, .var 1, .var 2], .tup [.str "ask", .str "column", .neg (.int 1), .var 2, .var 1], .lst [.str "ask", .str "row", .int 1, .var 2, .var 1]])), .set 3 false (.bin .Add (.var 3) (.lst [.tup [.str "end", .non], .tup [.str "end", .str "1"], .tup [], .tup [.str "ask", .str "row", .non, .var 1, .var 2], .tup [.str "row", .str "ask", .int 1, .var 2, .var 1]])), .set 3 false (.bin .Add (.var 3) (.lst [.tup [.str "ask", .lst [.str "row"], .int 1, .var 2, .var 1], .tup [.dc0, .int 1], .tup [.str "ask", .str "row", .lst [.int 1], .var 2, .var 1], .tup [.lst [.str "end"], .int 1]])), .ret (.ix (.var 3) (.bin .Mod (.var 0) (.int 28)))] }
noncomputable def q0J : FD := { n := 3, np := 2, dfl := [], body := [.set 2 false (.call 18 [.ix (.var 1) (.int 0), .var 0]), .iff (.cmp .Eq (.bin .Mod (.ix (.var 1) (.int 1)) (.int 3)) (.int 0)) [.ret (.var 2)] [], .iff (.cmp .Eq (.bin .Mod (.ix (.var 1) (.int 1)) (.int 3)) (.int 1)) [.ret (.tup [.str "ask", .str "column", .bin .Add (.int 1) (.bin .Mod (.ix (.var 1) (.int 2)) (.int 255)), .var 2, .tup [.str "end", .int 3]])] [], .ret (.tup [.str "ask", .str "row", .int 5, .tup [.str "end", .int 0], .tup [.str "ask", .str "column", .bin .Add (.int 1) (.bin .Mod (.ix (.var 1) (.int 2)) (.int 255)), .tup [.str "end", .int 3], .var 2]])] }
noncomputable def q1v : FD := { n := 3, np := 1, dfl := [], body := [.set 1 false (.non), .tryc [.exp (.call 1 [.var 0])] "TalkError" 2 1, .iff (.or [.cmp .Is (.var 1) (.non), .not (.isx (.var 1) "NoPlan"), .not (.isx (.var 1) "ValueError")]) [.ret (.bl false)] [], .ret (.and [.not (.isx (.var 1) "NoCard"), .not (.isx (.var 1) "NoText"), .not (.isx (.var 1) "NoTable")])] }
noncomputable def q2u : FD := { n := 6, np := 1, dfl := [], body := [.sett [1, 2] (.call 17 [.var 0]), .iff (.or [.cmp .Gt (.var 1) (.int 12), .cmp .Gt (.var 2) (.int 300)]) [.ret (.call 20 [.var 0])] [], .set 3 false (.call 1 [.var 0]), .iff (.or [.not (.isi (.var 3) ["tuple"]), .cmp .NotEq (.var 3) (.var 0)]) [.ret (.bl false)] [], .set 4 false (.call 7 [.var 0]), .set 5 false (.call 8 [.var 0]), .ret (.and [.call 9 [.var 4], .cmp .Eq (.var 4) (.var 1), .call 9 [.var 5], .cmp .Eq (.var 5) (.bin .Add (.var 2) (.int 1))])] }
noncomputable def q9p : FD := { n := 6, np := 1, dfl := [], body := [.set 1 true (.call 11 [.call 10 [.var 0, .int 0], .int 40]), .fo (.one 2) (.rng [.bi .min [.int 30, .bi .max [.int 0, .bin .Sub (.bi .len [.var 0]) (.int 2)]]]) [.seti 1 (.bin .Add (.int 5) (.var 2)) (.bin .Mod (.ix (.var 0) (.bin .Add (.int 2) (.var 2))) (.int 2147483647))], .set 3 false (.call 12 [.var 1, .int 0, .bin .Mod (.ix (.var 1) (.int 1)) (.int 5), .int 3]), .set 4 false (.call 13 [.var 1, .bin .Mod (.ix (.var 1) (.int 2)) (.int 14)]), .iff (.or [.not (.call 21 [.var 3]), .not (.call 21 [.var 4]), .not (.call 21 [.call 16 [.var 1]])]) [.ret (.bl false)] [], .fo (.one 5) (.lst [.call 10 [.var 0, .int 1], .call 10 [.var 0, .int 0]]) [.iff (.not (.call 20 [.call 19 [.var 3, .call 11 [.var 5, .int 3]]])) [.ret (.bl false)] []], .ret (.call 21 [.var 3])] }
noncomputable def T : List FD := [q1r, q1d, q0F, q1k, q1j, q1C, q2b, q1Y, q1h, q2I, q1w, q1A, q1e, q1b, q1u, q1r, q1M, q1a, q2K, q0J, q1v, q2u, q9p]
noncomputable def G : Gs := { con := [("GREATEST_WORD", .int 9), ("MOST_ASKS_DEEP", .int 12), ("MOST_ASKS", .int 300), ("ALL_CARDS", .int 255)], cls := [("TalkError", ["ValueError", "Exception", "BaseException", "object"]), ("NoTable", ["TalkError", "ValueError", "Exception", "BaseException", "object"]), ("NoCard", ["TalkError", "ValueError", "Exception", "BaseException", "object"]), ("NoPlan", ["TalkError", "ValueError", "Exception", "BaseException", "object"]), ("NoText", ["TalkError", "ValueError", "Exception", "BaseException", "object"])], hun := true }
end k11
namespace k11
open PySem L2
variable {fu k : Nat} {F : Nat -> List DV -> Option Ou} {δ : List Sv} {ds : List DV} {cl : Cl}
theorem q4g {x : Int} : isiD G (.int x) ["int"] = some true := rfl
theorem q3y {x : Int} : isiD G (.int x) ["bool"] = some false := rfl
theorem q5J : cmpD .Eq (.str "end") (.str "end") = some true := by decide +kernel
theorem q7N : cmpD .Eq (.str "ask") (.str "end") = some false := by decide +kernel
theorem z0n : cmpD .Eq (.str "ask") (.str "ask") = some true := by decide +kernel
theorem z0d : cmpD .Eq (.str "row") (.str "row") = some true := by decide +kernel
theorem q9Z : cmpD .Eq (.str "column") (.str "row") = some false := by decide +kernel
theorem q3N {x a b : Int} : run G T fu (k + 1) 0 [.int x, .int a, .int b] = some (.v (.bl (decide (a <= x) && decide (x <= b))) false) := by
 rw [q0m (fd := q1r) rfl rfl]
 by_cases h1 : a <= x
 ·simp [q1r, q0k, evSs, evS, evE, q2x, Re.thnS, q1o, q4g, q3y, andD, q2i, cmpD, h1, Ou.of, frD, retD, Cl.item]
 ·simp [q1r, q0k, evSs, evS, evE, q2x, Re.thnS, q1o, q4g, q3y, andD, q2i, cmpD, h1, Ou.of, frD, retD, Cl.item]
theorem z0m (ns : List Int) (j : Nat) : ∃ v : Int, run G T fu (k + 1) 10 [.scr ns, .int j] = some (.v (.int v) false) := by
 rw [q0m (fd := q1w) rfl rfl]
 unfold q1w
 by_cases h : j < ns.length
 ·refine ⟨ns[j], q0K (q1N (q0r (cl := .strong) ?_) (q0G ?_))⟩
  ·simp [evE, evEs, q1o, q2l, q0k, biOk, biD, lenD, cmpD, h]
  ·simp [evS, evE, q1o, q0k, ixD, q2Y, h, Re.thnS, frD, retD, Cl.item]
 ·refine ⟨0, q0K (q0Y (q0r (cl := .strong) ?_) (q0G rfl))⟩
  simp [evE, evEs, q1o, q2l, q0k, biOk, biD, lenD, cmpD]
  omega
theorem q9d (xs : List Int) (v : Int) : xs.map DV.int ++ [.int v] = (xs ++ [v]).map DV.int := by rw [List.map_append]; rfl
theorem z2C {F : Nat -> List DV -> Option Ou} {δ : List Sv} {e : ME} {n : Nat} {cl : Cl} (h : evE G F e δ = some (.ok (.int n) cl)) (hn : n <= 1000) : q1U (evE G F (.rng [e]) δ) = some (.ok (upTo 0 n) .fresh) := by
 show q1U (Rs.thn (evEs G F [e] δ) (λ l => (rngD l).map λ ds => .ok (.lst ds) .fresh)) = _
 rw [q0a h q0d, q2l]
 have hs : (q1t (n : Int) && decide ((n : Int) <= (mostLen : Int))) = true := by
  rw [Bool.and_eq_true, decide_eq_true_iff]
  refine ⟨?_, Int.le_trans (show (n : Int) <= 1000 by omega) (by decide)⟩
  unfold q1t
  rw [Bool.and_eq_true, decide_eq_true_iff, decide_eq_true_iff]
  exact ⟨Int.le_trans (by decide) (Int.natCast_nonneg n), Int.lt_of_le_of_lt (show (n : Int) <= 1000 by omega) (by decide)⟩
 show q1U ((if q1t (n : Int) && decide ((n : Int) <= (mostLen : Int)) then some (upTo 0 (n : Int).toNat) else none).map λ ds => .ok (.lst ds) .fresh) = _
 rw [if_pos hs, Int.toNat_natCast]
 rfl
theorem z4I {j : Nat} (hj : j < 1000) : q4S (j : Int) (j : Int) = true := by unfold q4S; simp; omega
theorem m48 (x : Int) : q4S x 48271 = true := by unfold q4S; simp
theorem q6N (c : Int) (n : Nat) (hn : n <= 1000) : ∃ xs : List Int, xs.length = n /\ run G T fu (k + 1) 11 [.int c, .int n] = some (.v (.lst (xs.map DV.int)) true) := by
 rw [q0m (fd := q1A) rfl rfl]
 obtain ⟨δ1, h1, xs, num, z, hl, rfl⟩ := q3k (i := 4) (I := λ j δ => ∃ (xs : List Int) (num : Int) (z : Sv), xs.length = j /\ δ = [.val (.int c), .val (.int n), .own (.lst (xs.map DV.int)), .val (.int num), z])
  (body := λ δ' => evSs G (run G T fu k) fu [.set 3 false (.bin .Mod (.bin .Add (.bin .Add (.bin .Mult (.var 3) (.int 48271)) (.bin .Mult (.var 4) (.var 4))) (.int 11)) (.int 2147483647)), .app 2 (.bin .FloorDiv (.var 3) (.int 7))] δ') n 0 (δ := [.val (.int c), .val (.int n), .own (.lst []), .val (.int (c % 2147483647 + 48271)), .no])
  (λ j hj δ I => by
   obtain ⟨xs, num, z, hl, rfl⟩ := I
   rw [show (0 : Int) + (j : Int) = j by omega]
   obtain ⟨N, hN⟩ : ∃ N : Int, (num * 48271 + (j : Int) * j + 11) % 2147483647 = N := ⟨_, rfl⟩
   obtain ⟨D, hD⟩ : ∃ D : Int, N / 7 = D := ⟨_, rfl⟩
   refine ⟨_, q0O (q0E (d := .int N) (cl := .strong) ?_ rfl) (q0O (z0s (d := .int D) (cl := .strong) rfl ?_ rfl (by rw [List.length_map, hl]; exact Nat.lt_of_lt_of_le (Nat.lt_of_lt_of_le hj hn) (by decide))) rfl), xs ++ [D], N, .val (.int j), by rw [List.length_append, hl]; rfl, ?_⟩
   ·rw [← hN]; exact q1s (q1V (q1V (q9g (q0b rfl) q0c (m48 _)) (q9g (q0b rfl) (q0b rfl) (z4I (by omega)))) q0c) q0c (by decide)
   ·rw [← hD]; exact q8T (q0b rfl) q0c (by decide)
   ·rw [← q9d]; rfl) ⟨[], _, .no, rfl, rfl⟩
 refine ⟨xs, hl, ?_⟩
 unfold q1A
 exact q0K (q0O (q7v rfl) (q0O (q0E (d := .int (c % 2147483647 + 48271)) (cl := .strong) (q1V (q1s (q0b rfl) q0c (by decide)) q0c) rfl) (q8n (z2C (n := n) (q0b rfl) hn) (.inr rfl) h1 (q0G rfl))))
inductive Pl where
 | fin (v : Int) | ask (row : Bool) (c : Nat) (a b : Pl)
noncomputable def side (r : Bool) : DV := if r then .str "row" else .str "column"
noncomputable def dv : Pl -> DV
 | .fin v => .tup [.str "end", .int v]
 | .ask r c a b => .tup [.str "ask", side r, .int c, dv a, dv b]
noncomputable def ht : Pl -> Nat
 | .fin _ => 0
 | .ask _ _ a b => max (ht a) (ht b) + 1
noncomputable def lv : Pl -> Nat
 | .fin _ => 1
 | .ask _ _ a b => lv a + lv b
theorem q6w : ∀ p, 0 < lv p
 | .fin _ => Nat.one_pos
 | .ask _ _ a b => by unfold lv; have := q6w a; omega
theorem q6x : ∀ p, (dv p).immut = true
 | .fin _ => rfl
 | .ask r c a b => by
  have h1 := q6x a
  have h2 := q6x b
  unfold dv
  cases r <;> simp [DV.immut, DV.immuts, side, h1, h2]
theorem q8r {e : ME} {ds : List DV} {c : Cl} (h : evE G F e δ = some (.ok (.lst ds) c)) : evE G F (.bi .len [e]) δ = some (.ok (.int ds.length) .strong) := by
 show Rs.thn (evEs G F [e] δ) (λ l => lenD l) = _
 rw [q0a h q0d]
 rfl
theorem z1Y {e : ME} {ds : List DV} {c : Cl} (h : evE G F e δ = some (.ok (.tup ds) c)) : evE G F (.bi .len [e]) δ = some (.ok (.int ds.length) .strong) := by
 show Rs.thn (evEs G F [e] δ) (λ l => lenD l) = _
 rw [q0a h q0d]
 rfl
theorem q9H {f : Nat} {es : List ME} {l : List (DV × Cl)} {c : Str} (ha : evEs G F es δ = some (.ok l)) (h : F f (l.map (·.1)) = some (.x c)) : evE G F (.call f es) δ = some (.ex c) := by
 show Rs.thn (evEs G F es δ) (λ l => q3o F f l) = _
 rw [ha]
 show q3o F f l = _
 unfold q3o
 rw [h]
theorem z2f {e : ME} {c : Str} (h : evE G F e δ = some (.ex c)) : evS G F fu (.exp e) δ = some (.ex c δ) := by
 show Re.thnS δ (evE G F e δ) (λ _ _ => some (.nx δ)) = _
 rw [h]; rfl
theorem q9x {m : MS} {r : List MS} {c : Str} {δ' : List Sv} (h : evS G F fu m δ = some (.ex c δ')) : evSs G F fu (m :: r) δ = some (.ex c δ') := by
 unfold evSs
 rw [h]
theorem z3L {r : List MS} {c : Str} {δ' : List Sv} (h : evSs G F fu r δ = some (.ex c δ')) : Ou.of (evSs G F fu r δ) = some (.x c) := by rw [h]; rfl
theorem z4W {e : ME} {i : Int} {cl : Cl} (h : evE G F e δ = some (.ok (.int i) cl)) (h1 : i <= 1000) (h2 : -1000 <= i) : q1U (evE G F (.rng [e]) δ) = some (.ok (upTo 0 i.toNat) .fresh) := by
 show q1U (Rs.thn (evEs G F [e] δ) (λ l => (rngD l).map λ ds => .ok (.lst ds) .fresh)) = _
 rw [q0a h q0d, q2l]
 have hs : (q1t i && decide (i <= (mostLen : Int))) = true := by
  rw [Bool.and_eq_true, decide_eq_true_iff]
  refine ⟨?_, Int.le_trans h1 (by decide)⟩
  unfold q1t
  rw [Bool.and_eq_true, decide_eq_true_iff, decide_eq_true_iff]
  exact ⟨Int.le_trans (by decide) h2, Int.lt_of_le_of_lt h1 (by decide)⟩
 show q1U ((if q1t i && decide (i <= (mostLen : Int)) then some (upTo 0 i.toNat) else none).map λ ds => .ok (.lst ds) .fresh) = _
 rw [if_pos hs]
 rfl
theorem z1d {n j : Nat} (h : j < n) : q2Y n (j : Int) = some j := by
 unfold q2Y
 rw [if_pos (Int.natCast_nonneg j), if_pos (by omega), Int.toNat_natCast]
theorem z3g {F : Nat -> List DV -> Option Ou} {δ : List Sv} {es : List ME} {l : List (DV × Cl)} (h : evEs G F es δ = some (.ok l)) : evE G F (.bi .min es) δ = minD l := by
 have e : evE G F (.bi .min es) δ = Rs.thn (evEs G F es δ) (λ l => minD l) := rfl
 rw [e, h]
 rfl
theorem z2K {F : Nat -> List DV -> Option Ou} {δ : List Sv} {es : List ME} {l : List (DV × Cl)} (h : evEs G F es δ = some (.ok l)) (hl : l.length <= mostLen) (hs : stros l = true) : evE G F (.lst es) δ = some (.ok (.lst (l.map (·.1))) .fresh) := by
 have e : evE G F (.lst es) δ = Rs.thn (evEs G F es δ) (λ l => if l.length <= mostLen then some (.ok (.lst (l.map (·.1))) (if stros l then .fresh else .weak)) else none) := rfl
 rw [e, h, q2l, if_pos hl, hs]
 rfl
noncomputable def Okp : Pl -> Prop
 | .fin v => 0 <= v /\ v <= 9
 | .ask _ c a b => 1 <= c /\ c <= 255 /\ Okp a /\ Okp b
theorem q5W (n : Int) : ∃ s : Bool, ixD (.lst [.str "row", .str "column"]) (.int (n % 2)) = some (side s) := by
 have : n % 2 = 0 \/ n % 2 = 1 := by omega
 rcases this with h | h
 ·exact ⟨true, by rw [h]; rfl⟩
 ·exact ⟨false, by rw [h]; rfl⟩
theorem q3I (n : Int) : ∃ o : Nat, 1 + n % 255 = (o : Int) := ⟨(1 + n % 255).toNat, by omega⟩
theorem q9q {F : Nat -> List DV -> Option Ou} {δ : List Sv} : evE G F (.lst [.str "row", .str "column"]) δ = some (.ok (.lst [.str "row", .str "column"]) .fresh) := rfl
theorem z2I (xs : List Int) (hx : xs.length = 40) : ∀ (d : Nat) (at' : Int), ∃ p : Pl, Okp p /\ ht p <= d /\ lv p <= 2 ^ d /\ ∀ k, d < k -> run G T fu k 12 [.lst (xs.map DV.int), .int at', .int d, .int 3] = some (.v (dv p) false) := by
 intro d
 induction d with
 | zero =>
  intro at'
  obtain ⟨n, hn⟩ := q2E (l := xs) (i := at' % 40) (by omega) (by rw [hx]; omega)
  refine ⟨.fin (n / 7 % 10), ⟨by omega, by omega⟩, Nat.le_refl _, Nat.le_refl _, λ k hk => ?_⟩
  obtain ⟨k, rfl⟩ : ∃ k', k = k' + 1 := ⟨k - 1, by omega⟩
  rw [q0m (fd := q1e) rfl rfl]
  unfold q1e
  have hlen : evE G (run G T fu k) (.bi .len [.var 0]) (q0k 8 [.lst (xs.map DV.int), .int at', .int (0 : Nat), .int 3]) = some (.ok (.int 40) .strong) := by
   simp [evE, evEs, q2l, biOk, biD, lenD, q0k, hx]
  refine q0K (q0O (q0E (d := .int n) (cl := .strong) (q0s (q0b rfl) (q1s (q0b rfl) hlen (by decide)) hn) rfl) (q1N (q0r (q5V (b_eq (i := 0) (j := 0) (q0b rfl) q0c))) (q0G (q0D (cl := .strong) ?_))))
  have e := q1s (q8T (q0b (G := G) (F := run G T fu k) (n := 4) (d := .int n) (δ := ((q0k 8 [.lst (xs.map DV.int), .int at', .int (0 : Nat), .int 3]).set 4 (.val (.int n)))) rfl) (q0c (i := 7)) (by decide)) (q0c (i := 10)) (by decide)
  exact q2G (q0a q0z (q0a e q0d)) (Nat.le_of_ble_eq_true rfl) rfl
 | succ d ih =>
  intro at'
  obtain ⟨n, hn⟩ := q2E (l := xs) (i := at' % 40) (by omega) (by rw [hx]; omega)
  obtain ⟨s, hs⟩ := q5W (n / 7)
  obtain ⟨o, ho⟩ := q3I (n / 14)
  obtain ⟨a, a0, a1, a2, a3⟩ := ih (2 * at' + 1)
  obtain ⟨b, b0, b1, b2, b3⟩ := ih (2 * at' + 2)
  have hd : ((d + 1 : Nat) : Int) - 1 = (d : Int) := by omega
  by_cases hc : n % 7 = 0 /\ ((d + 1 : Nat) : Int) < 3
  ·refine ⟨.fin (n / 7 % 10), ⟨by omega, by omega⟩, Nat.zero_le _, Nat.one_le_two_pow, λ k hk => ?_⟩
   obtain ⟨k, rfl⟩ : ∃ k', k = k' + 1 := ⟨k - 1, by omega⟩
   rw [q0m (fd := q1e) rfl rfl]
   unfold q1e
   have hlen : evE G (run G T fu k) (.bi .len [.var 0]) (q0k 8 [.lst (xs.map DV.int), .int at', .int ((d + 1 : Nat) : Int), .int 3]) = some (.ok (.int 40) .strong) := by
    simp [evE, evEs, q2l, biOk, biD, lenD, q0k, hx]
   have e1 : (((d + 1 : Nat) : Int) == 0) = false := by rw [beq_eq_false_iff_ne]; omega
   have e2 : (n % 7 == 0) = true := by rw [beq_iff_eq]; exact hc.1
   have e3 : decide (((d + 1 : Nat) : Int) < 3) = true := decide_eq_true hc.2
   have t1 := b_eq (q0b (G := G) (F := run G T fu k) (n := 2) (d := .int ((d + 1 : Nat) : Int)) (δ := ((q0k 8 [.lst (xs.map DV.int), .int at', .int ((d + 1 : Nat) : Int), .int 3]).set 4 (.val (.int n)))) rfl) (q0c (i := 0))
   have t2 := b_eq (q1s (q0b (G := G) (F := run G T fu k) (n := 4) (d := .int n) (δ := ((q0k 8 [.lst (xs.map DV.int), .int at', .int ((d + 1 : Nat) : Int), .int 3]).set 4 (.val (.int n)))) rfl) (q0c (i := 7)) (by decide)) (q0c (i := 0))
   have t3 := b_lt (q0b (G := G) (F := run G T fu k) (n := 2) (d := .int ((d + 1 : Nat) : Int)) (δ := ((q0k 8 [.lst (xs.map DV.int), .int at', .int ((d + 1 : Nat) : Int), .int 3]).set 4 (.val (.int n)))) rfl) (q0b (n := 3) (d := .int 3) rfl)
   rw [e1] at t1
   rw [e2] at t2
   rw [e3] at t3
   refine q0K (q0O (q0E (d := .int n) (cl := .strong) (q0s (q0b rfl) (q1s (q0b rfl) hlen (by decide)) hn) rfl) (q1N (q0r (q1D t1 (q3K t2 t3))) (q0G (q0D (cl := .strong) ?_))))
   have e := q1s (q8T (q0b (G := G) (F := run G T fu k) (n := 4) (d := .int n) (δ := ((q0k 8 [.lst (xs.map DV.int), .int at', .int ((d + 1 : Nat) : Int), .int 3]).set 4 (.val (.int n)))) rfl) (q0c (i := 7)) (by decide)) (q0c (i := 10)) (by decide)
   exact q2G (q0a q0z (q0a e q0d)) (Nat.le_of_ble_eq_true rfl) rfl
  ·refine ⟨.ask s o a b, ⟨by omega, by omega, a0, b0⟩, by unfold ht; omega, by unfold lv; rw [Nat.pow_succ]; omega, λ k hk => ?_⟩
   obtain ⟨k, rfl⟩ : ∃ k', k = k' + 1 := ⟨k - 1, by omega⟩
   have a4 := a3 k (by omega)
   have b4 := b3 k (by omega)
   rw [← hd] at a4 b4
   rw [q0m (fd := q1e) rfl rfl]
   unfold q1e
   have hlen : evE G (run G T fu k) (.bi .len [.var 0]) (q0k 8 [.lst (xs.map DV.int), .int at', .int ((d + 1 : Nat) : Int), .int 3]) = some (.ok (.int 40) .strong) := by
    simp [evE, evEs, q2l, biOk, biD, lenD, q0k, hx]
   have e1 : (((d + 1 : Nat) : Int) == 0) = false := by rw [beq_eq_false_iff_ne]; omega
   have t1 := b_eq (q0b (G := G) (F := run G T fu k) (n := 2) (d := .int ((d + 1 : Nat) : Int)) (δ := ((q0k 8 [.lst (xs.map DV.int), .int at', .int ((d + 1 : Nat) : Int), .int 3]).set 4 (.val (.int n)))) rfl) (q0c (i := 0))
   have t2 := b_eq (q1s (q0b (G := G) (F := run G T fu k) (n := 4) (d := .int n) (δ := ((q0k 8 [.lst (xs.map DV.int), .int at', .int ((d + 1 : Nat) : Int), .int 3]).set 4 (.val (.int n)))) rfl) (q0c (i := 7)) (by decide)) (q0c (i := 0))
   have t3 := b_lt (q0b (G := G) (F := run G T fu k) (n := 2) (d := .int ((d + 1 : Nat) : Int)) (δ := ((q0k 8 [.lst (xs.map DV.int), .int at', .int ((d + 1 : Nat) : Int), .int 3]).set 4 (.val (.int n)))) rfl) (q0b (n := 3) (d := .int 3) rfl)
   rw [e1] at t1
   have t4 : evE G (run G T fu k) (.and [.cmp .Eq (.bin .Mod (.var 4) (.int 7)) (.int 0), .cmp .Lt (.var 2) (.var 3)]) ((q0k 8 [.lst (xs.map DV.int), .int at', .int ((d + 1 : Nat) : Int), .int 3]).set 4 (.val (.int n))) = some (.ok (.bl false) .strong) := by
    cases z : (n % 7 == 0) with
    | false => rw [z] at t2; exact q9f (t := true) t2
    | true =>
     rw [z] at t2
     rw [decide_eq_false (λ q => hc ⟨beq_iff_eq.mp z, q⟩)] at t3
     exact q3K t2 t3
   have m2 : ∀ x : Int, q4S 2 x = true := λ x => by unfold q4S; simp
   refine q0K (q0O (q0E (d := .int n) (cl := .strong) (q0s (q0b rfl) (q1s (q0b rfl) hlen (by decide)) hn) rfl) (q0Y (q0r (q1D t1 t4)) (q0O (q0E (d := side s) (cl := .strong) (q0s q9q (q1s (q8T (q0b rfl) q0c (by decide)) q0c (by decide)) hs) rfl)
    (q0O (q0E (d := .int o) (cl := .strong) (by rw [← ho]; exact q1V q0c (q1s (q8T (q0b rfl) q0c (by decide)) q0c (by decide))) rfl)
    (q0O (q0E (d := dv a) (cl := .strong) (q0f (q0a (q0b rfl) (q0a (q1V (q9g q0c (q0b rfl) (m2 _)) q0c) (q0a (q3n (q0b rfl) q0c) (q0a (q0b rfl) q0d)))) rfl a4) rfl) (q0G (q0D (cl := .strong) ?_)))))))
   exact q2G (q0a q0z (q0a (q0b rfl) (q0a (q0b rfl) (q0a (q0b rfl) (q0a (q0f (q0a (q0b rfl) (q0a (q1V (q9g q0c (q0b rfl) (m2 _)) q0c) (q0a (q3n (q0b rfl) q0c) (q0a (q0b rfl) q0d)))) rfl b4) q0d))))) (Nat.le_of_ble_eq_true rfl) rfl
section
variable {G : Gs} {a b : ME} {r : List ME} {cx : Cl} {o : Option Re}
theorem q2d (ha : evE G F a δ = some (.ok (.bl true) cx)) (hb : evE G F (.and (b :: r)) δ = o) : evE G F (.and (a :: b :: r)) δ = o := by
 have e : evE G F (.and (a :: b :: r)) δ = Re.thn (evE G F a δ) (λ x c => andD x c (q2x G F (b :: r) δ)) := by
  rw [evE, q2x]; rfl
 have e2 : evE G F (.and (b :: r)) δ = q2x G F (b :: r) δ := by rw [evE]
 rw [e, ha, q1o, ← e2, hb]
 rfl
theorem q4i (ha : evE G F a δ = some (.ok (.bl false) cx)) : evE G F (.and (a :: b :: r)) δ = some (.ok (.bl false) cx) := by
 have e : evE G F (.and (a :: b :: r)) δ = Re.thn (evE G F a δ) (λ x c => andD x c (q2x G F (b :: r) δ)) := by
  rw [evE, q2x]; rfl
 rw [e, ha, q1o]
 rfl
theorem q5Q (ha : evE G F a δ = o) : evE G F (.and [a]) δ = o := by
 have e : evE G F (.and [a]) δ = evE G F a δ := by rw [evE, q2x]; rfl
 rw [e, ha]
theorem q5c {tg : Tg} {body : List Sv -> Option Out} {d : DV} {r : List DV} {δ1 δ2 : List Sv} (h1 : tg.bind d δ = some δ1) (h2 : body δ1 = some (.nx δ2)) : q2w tg body (d :: r) δ = q2w tg body r δ2 := by
 show (match tg.bind d δ with | none => none | some δ1 => match body δ1 with | some (.nx δ2) => q2w tg body r δ2 | o => o) = _
 rw [h1]
 show (match body δ1 with | some (.nx δ2) => q2w tg body r δ2 | o => o) = _
 rw [h2]
end
theorem z0a : cmpD .Eq (.str "column") (.str "column") = some true := by decide +kernel
theorem q1m (ds : List DV) (n : Int) : run G T fu (k + 1) 5 [.tup ds, .int n] = some (.v (.bl ((ds.length : Int) == n)) false) := by
 rw [q0m (fd := q1C) rfl rfl]
 unfold q1C
 exact q0K (q0G (q0D (q2d (cx := .strong) rfl (q5Q (b_eq (z1Y (q0b rfl)) (q0b rfl))))))
theorem q0S {x y : Str} {b : Bool} (h : cmpD .Eq (.str x) (.str y) = some b) : run G T fu (k + 1) 6 [.str x, .str y] = some (.v (.bl b) false) := by
 rw [q0m (fd := q2b) rfl rfl]
 unfold q2b
 exact q0K (q0G (q0D (q2d (cx := .strong) rfl (q5Q (q1Q (q0b rfl) (q0b rfl) h)))))
theorem q4C {v : Int} (h : 0 <= v /\ v <= 9) : run G T fu (k + 2) 3 [dv (.fin v)] = some (.v (.bl true) false) := by
 rw [q0m (fd := q1k) rfl rfl]
 unfold q1k
 have q := q3N (fu := fu) (k := k) (x := v) (a := 0) (b := 9)
 rw [decide_eq_true h.1, decide_eq_true h.2] at q
 exact q0K (q0G (q0D (cl := .strong) (q2d (q0f (l := [(dv (.fin v), .strong), (.int 2, .strong)]) rfl rfl (q1m _ 2)) (q2d (q0f (l := [(.str "end", .strong), (.str "end", .strong)]) (q0a (q0s (q0b rfl) q0c rfl) (q0a q0z q0d)) rfl (q0S q5J)) (q5Q (q0f (l := [(.int v, .strong), (.int 0, .strong), (.int 9, .strong)]) (q0a (q0s (q0b rfl) q0c rfl) (q0a q0c (q0a rfl q0d))) rfl q))))))
theorem q3t {s : Bool} {o : Nat} {a b : Pl} : run G T fu (k + 2) 3 [dv (.ask s o a b)] = some (.v (.bl false) false) := by
 rw [q0m (fd := q1k) rfl rfl]
 unfold q1k
 exact q0K (q0G (q0D (cl := .strong) (q4i (q0f (l := [(dv (.ask s o a b), .strong), (.int 2, .strong)]) rfl rfl (q1m _ 2)))))
theorem q6u {s : Bool} {o : Nat} {a b : Pl} (h : 1 <= o /\ o <= 255) : run G T fu (k + 2) 4 [dv (.ask s o a b)] = some (.v (.bl true) false) := by
 rw [q0m (fd := q1j) rfl rfl]
 unfold q1j
 have q := q3N (fu := fu) (k := k) (x := (o : Int)) (a := 1) (b := 255)
 rw [decide_eq_true (show (1 : Int) <= o by omega), decide_eq_true (show (o : Int) <= 255 by omega)] at q
 refine q0K (q0Y (q0r (cl := .strong) (q1D (q1H (x := true) (q0f (l := [(dv (.ask s o a b), .strong), (.int 5, .strong)]) rfl rfl (q1m _ 5))) (q1H (x := true) (q0f (l := [(.str "ask", .strong), (.str "ask", .strong)]) (q0a (q0s (q0b rfl) q0c rfl) (q0a q0z q0d)) rfl (q0S z0n))))) (q0G (q0D (cl := .strong) (q3K (cx := .strong) ?_ (q0f (l := [(.int o, .strong), (.int 1, .strong), (.int 255, .strong)]) (q0a (q0s (q0b rfl) q0c rfl) (q0a q0c (q0a rfl q0d))) rfl q)))))
 cases s with
 | true => exact q5V (q0f (l := [(.str "row", .strong), (.str "row", .strong)]) (q0a (q0s (q0b rfl) q0c rfl) (q0a q0z q0d)) rfl (q0S z0d))
 | false => exact q1D (q0f (l := [(.str "column", .strong), (.str "row", .strong)]) (q0a (q0s (q0b rfl) q0c rfl) (q0a q0z q0d)) rfl (q0S q9Z)) (q0f (l := [(.str "column", .strong), (.str "column", .strong)]) (q0a (q0s (q0b rfl) q0c rfl) (q0a q0z q0d)) rfl (q0S z0a))
theorem q3X : ∀ (p : Pl) (d k : Nat), Okp p -> ht p <= d -> ht p + 2 < k -> run G T fu k 2 [dv p, .int d] = some (.v (.bl true) false)
 | p, _, 0, _, _, h => absurd h (Nat.not_lt_zero _)
 | p, _, 1, _, _, h => by omega
 | p, _, 2, _, _, h => by omega
 | .fin v, d, k + 3, h, _, _ => by
  rw [q0m (fd := q0F) rfl rfl]
  unfold q0F
  exact q0K (q1N (q0r (cl := .strong) (q0f (l := [(dv (.fin v), .strong)]) rfl rfl (q4C h))) (q0G rfl))
 | .ask s o a b, 0, k + 3, _, h, _ => by unfold ht at h; omega
 | .ask s o a b, d + 1, k + 3, h, hd, hk => by
  unfold ht at hd hk
  obtain ⟨h1, h2, h3, h4⟩ := h
  have ea := q3X a d (k + 2) h3 (by omega) (by omega)
  have eb := q3X b d (k + 2) h4 (by omega) (by omega)
  have hd1 : ((d + 1 : Nat) : Int) - 1 = d := by omega
  rw [← hd1] at ea eb
  rw [q0m (fd := q0F) rfl rfl]
  unfold q0F
  refine q0K (q0Y (q0r (cl := .strong) (q0f (l := [(dv (.ask s o a b), .strong)]) rfl rfl q3t)) (q0G (q0D (cl := .strong) (q2d (cx := .strong) ?_ (q2d (q0f (l := [(dv (.ask s o a b), .strong)]) rfl rfl (q6u ⟨h1, h2⟩)) (q2d (q0f (q0a (q0s (q0b rfl) q0c rfl) (q0a (q3n (q0b rfl) q0c) q0d)) rfl ea) (q5Q (q0f (q0a (q0s (q0b rfl) q0c rfl) (q0a (q3n (q0b rfl) q0c) q0d)) rfl eb))))))))
  have := b_gt (q0b (G := G) (F := run G T fu (k + 2)) (n := 1) (d := .int ((d + 1 : Nat) : Int)) (δ := q0k 2 [dv (.ask s o a b), .int ((d + 1 : Nat) : Int)]) rfl) (q0c (i := 0))
  rw [decide_eq_true (show (0 : Int) < ((d + 1 : Nat) : Int) by omega)] at this
  exact this
theorem q1Z : ∀ (p : Pl) (k : Nat), ht p < k -> run G T fu k 8 [dv p] = some (.v (.int (lv p)) false)
 | p, 0, h => absurd h (Nat.not_lt_zero _)
 | .fin v, k + 1, _ => by
  rw [q0m (fd := q1h) rfl rfl]
  unfold q1h
  exact q0K (q1N (q0r (cl := .strong) (q1Q (q0s (q0b rfl) q0c rfl) q0z q5J)) (q0G rfl))
 | .ask s o a b, k + 1, h => by
  unfold ht at h
  have ea := q1Z a k (by omega)
  have eb := q1Z b k (by omega)
  rw [q0m (fd := q1h) rfl rfl]
  unfold q1h
  have e := q0K (q0Y (r := [.ret (.bin .Add (.call 8 [.ix (.var 0) (.int 3)]) (.call 8 [.ix (.var 0) (.int 4)]))]) (a := [.ret (.int 1)]) (fu := fu) (q0r (cl := .strong) (q1Q (G := G) (F := run G T fu k) (δ := q0k 1 [dv (.ask s o a b)]) (q0s (q0b (n := 0) rfl) (q0c (i := 0)) rfl) q0z q7N)) (q0G (q0D (q1V (q0f (q0a (q0s (q0b rfl) q0c rfl) q0d) rfl ea) (q0f (q0a (q0s (q0b rfl) q0c rfl) q0d) rfl eb)))))
  rw [show ((lv (.ask s o a b) : Nat) : Int) = (lv a : Int) + (lv b : Int) from Int.natCast_add (lv a) (lv b)]
  exact e
theorem z3G (p : Pl) (h : Okp p) (h1 : ht p <= 12) (h2 : lv p <= 301) (hk : 15 < k) : run G T fu (k + 1) 1 [dv p] = some (.v (dv p) false) := by
 rw [q0m (fd := q1d) rfl rfl]
 unfold q1d
 have e1 : evE G (run G T fu k) (.bin .Add (.glb "MOST_ASKS") (.int 1)) (q0k 1 [dv p]) = some (.ok (.int 301) .strong) := rfl
 have e2 := b_gt (q0f (G := G) (F := run G T fu k) (δ := q0k 1 [dv p]) (f := 8) (q0a (q0b (n := 0) rfl) q0d) rfl (q1Z p k (by omega))) e1
 rw [decide_eq_false (show ¬ (301 : Int) < (lv p : Int) by omega)] at e2
 exact q0K (q0Y (q0r (cl := .strong) (q1H (x := true) (q0f (l := [(dv p, .strong), (.int 12, .strong)]) rfl rfl (q3X p 12 k h h1 (by omega))))) (q0Y (q0r e2) (q0G ((q0D (cl := .strong) (q0b (d := dv p) rfl)).trans (by cases p <;> rfl)))))
end k11
end
section
namespace k11
open PySem L2
variable {fu k : Nat} {F : Nat -> List DV -> Option Ou} {δ : List Sv} {ds : List DV} {cl : Cl}
theorem q3h {s : Bool} {o : Nat} {a b : Pl} : ht (.ask s o a b) = max (ht a) (ht b) + 1 := rfl
theorem z3q {s : Bool} {o : Nat} {a b : Pl} : lv (.ask s o a b) = lv a + lv b := rfl
theorem q7o : ∀ (p : Pl) (d k : Nat), Okp p -> ht p + 2 < k -> run G T fu k 2 [dv p, .int d] = some (.v (.bl (decide (ht p <= d))) false)
 | p, _, 0, _, h => absurd h (Nat.not_lt_zero _)
 | p, _, 1, _, h => by omega
 | p, _, 2, _, h => by omega
 | .fin v, d, k + 3, h, _ => by
  rw [q0m (fd := q0F) rfl rfl]
  unfold q0F
  exact q0K (q1N (q0r (cl := .strong) (q0f (l := [(dv (.fin v), .strong)]) rfl rfl (q4C h))) (q0G rfl))
 | .ask s o a b, 0, k + 3, _, h => by
  rw [q0m (fd := q0F) rfl rfl]
  unfold q0F
  refine q0K (q0Y (q0r (cl := .strong) (q0f (l := [(dv (.ask s o a b), .strong)]) rfl rfl q3t)) (q0G ?_))
  exact q0D (cl := .strong) (q4i (b_gt (i := 0) (j := 0) (q0b rfl) q0c))
 | .ask s o a b, d + 1, k + 3, h, hk => by
  unfold ht at hk
  obtain ⟨h1, h2, h3, h4⟩ := h
  have ea := q7o a d (k + 2) h3 (by omega)
  have eb := q7o b d (k + 2) h4 (by omega)
  have hd1 : ((d + 1 : Nat) : Int) - 1 = d := by omega
  rw [← hd1] at ea eb
  rw [q0m (fd := q0F) rfl rfl]
  unfold q0F
  have g0 := b_gt (q0b (G := G) (F := run G T fu (k + 2)) (n := 1) (d := .int ((d + 1 : Nat) : Int)) (δ := q0k 2 [dv (.ask s o a b), .int ((d + 1 : Nat) : Int)]) rfl) (q0c (i := 0))
  rw [decide_eq_true (show (0 : Int) < ((d + 1 : Nat) : Int) by omega)] at g0
  have hh : decide (ht (.ask s o a b) <= d + 1) = (decide (ht a <= d) && decide (ht b <= d)) := by
   rw [← Bool.decide_and, decide_eq_decide, q3h]
   omega
  rw [hh]
  refine q0K (q0Y (q0r (cl := .strong) (q0f (l := [(dv (.ask s o a b), .strong)]) rfl rfl q3t)) (q0G (q0D (cl := .strong) (q2d g0 (q2d (q0f (l := [(dv (.ask s o a b), .strong)]) rfl rfl (q6u ⟨h1, h2⟩)) ?_)))))
  cases z : decide (ht a <= d) with
  | false =>
   rw [z] at ea
   exact q4i (q0f (q0a (q0s (q0b rfl) q0c rfl) (q0a (q3n (q0b rfl) q0c) q0d)) rfl ea)
  | true =>
   rw [z] at ea
   exact q2d (q0f (q0a (q0s (q0b rfl) q0c rfl) (q0a (q3n (q0b rfl) q0c) q0d)) rfl ea) (q5Q (q0f (q0a (q0s (q0b rfl) q0c rfl) (q0a (q3n (q0b rfl) q0c) q0d)) rfl eb))
theorem q8z {a b : ME} {i j : Nat} {cx cy : Cl} (ha : evE G F a δ = some (.ok (.int (i : Int)) cx)) (hb : evE G F b δ = some (.ok (.int (j : Int)) cy)) : evE G F (.bi .max [a, b]) δ = some (.ok (.int ((max i j : Nat) : Int)) .strong) := by
 have e : evE G F (.bi .max [a, b]) δ = Rs.thn (evEs G F [a, b] δ) (λ l => maxD l) := rfl
 rw [e, q0a ha (q0a hb q0d)]
 show some (Re.ok (.int (if (j : Int) > (i : Int) then (j : Int) else (i : Int))) Cl.strong) = _
 congr 3
 split <;> omega
theorem q8d : ∀ (p : Pl) (k : Nat), ht p < k -> run G T fu k 7 [dv p] = some (.v (.int (ht p)) false)
 | p, 0, h => absurd h (Nat.not_lt_zero _)
 | .fin v, k + 1, _ => by
  rw [q0m (fd := q1Y) rfl rfl]
  unfold q1Y
  exact q0K (q1N (q0r (cl := .strong) (q1Q (q0s (q0b rfl) q0c rfl) q0z q5J)) (q0G rfl))
 | .ask s o a b, k + 1, h => by
  unfold ht at h
  have ea := q8d a k (by omega)
  have eb := q8d b k (by omega)
  rw [q0m (fd := q1Y) rfl rfl]
  unfold q1Y
  have m := q8z (F := run G T fu k) (δ := q0k 1 [dv (.ask s o a b)]) (q0f (f := 7) (q0a (q0s (q0b (n := 0) rfl) (q0c (i := 3)) rfl) q0d) rfl ea) (q0f (f := 7) (q0a (q0s (q0b (n := 0) rfl) (q0c (i := 4)) rfl) q0d) rfl eb)
  have e := q1V (q0c (i := 1)) m
  rw [show (1 : Int) + ((max (ht a) (ht b) : Nat) : Int) = ((ht (.ask s o a b) : Nat) : Int) by rw [q3h]; omega] at e
  exact q0K (q0Y (q0r (cl := .strong) (q1Q (q0s (q0b rfl) q0c rfl) q0z q7N)) (q0G (q0D e)))
noncomputable def cnt (p : Pl) : DV := .tup [.int (ht p), .int ((lv p - 1 : Nat) : Int)]
theorem q4c : ∀ (p : Pl) (k : Nat), ht p < k -> run G T fu k 17 [dv p] = some (.v (cnt p) false)
 | p, 0, h => absurd h (Nat.not_lt_zero _)
 | .fin v, k + 1, _ => by
  rw [q0m (fd := q1a) rfl rfl]
  unfold q1a
  exact q0K (q1N (q0r (cl := .strong) (q1Q (q0s (q0b rfl) q0c rfl) q0z q5J)) (q0G rfl))
 | .ask s o a b, k + 1, h => by
  unfold ht at h
  have ea := q4c a k (by omega)
  have eb := q4c b k (by omega)
  have la := q6w a
  have lb := q6w b
  rw [q0m (fd := q1a) rfl rfl]
  unfold q1a
  have m := q8z (F := run G T fu k) (δ := [.val (dv (.ask s o a b)), .val (cnt a), .val (cnt b)]) (q0s (q0b (n := 1) rfl) (q0c (i := 0)) rfl) (q0s (q0b (n := 2) rfl) (q0c (i := 0)) rfl)
  have e1 := q1V (q0c (i := 1)) m
  have e2 := q1V (q1V (q0c (i := 1)) (q0s (G := G) (F := run G T fu k) (δ := [.val (dv (.ask s o a b)), .val (cnt a), .val (cnt b)]) (q0b (n := 1) rfl) (q0c (i := 1)) rfl)) (q0s (q0b (n := 2) rfl) (q0c (i := 1)) rfl)
  rw [show (1 : Int) + ((max (ht a) (ht b) : Nat) : Int) = ((ht (.ask s o a b) : Nat) : Int) by rw [q3h]; omega] at e1
  rw [show (1 : Int) + ((lv a - 1 : Nat) : Int) + ((lv b - 1 : Nat) : Int) = ((lv (.ask s o a b) - 1 : Nat) : Int) by rw [z3q]; omega] at e2
  refine q0K (q0Y (q0r (cl := .strong) (q1Q (q0s (q0b rfl) q0c rfl) q0z q7N)) (q0O (q0E (d := cnt a) (cl := .strong) (q0f (q0a (q0s (q0b rfl) q0c rfl) q0d) rfl ea) rfl) (q0O (q0E (d := cnt b) (cl := .strong) (q0f (q0a (q0s (q0b rfl) q0c rfl) q0d) rfl eb) rfl) (q0G (q0D (cl := .strong) (q2G (q0a e1 (q0a e2 q0d)) (show 2 <= mostLen by decide) rfl))))))
theorem z0u {c : Str} {e : ME} {d : DV} (hc : (G.cls.lookup c).isSome = true) (h : evE G F e δ = some (.ok d cl)) : evS G F fu (.rse c e) δ = some (.ex c δ) := by
 have q : evS G F fu (.rse c e) δ = (if (G.cls.lookup c).isSome then Re.thnS δ (evE G F e δ) λ _ _ => some (.ex c δ) else none) := by rw [evS]
 rw [q, if_pos hc, h]
 rfl
theorem z0t {c : ME} {a b r : List MS} {cc : Str} {δ' : List Sv} (h : tstD (evE G F c δ) = some (.ok true)) (ha : evSs G F fu a δ = some (.ex cc δ')) : evSs G F fu (.iff c a b :: r) δ = some (.ex cc δ') := by
 refine q9x ?_
 have q : evS G F fu (.iff c a b) δ = Rt.thnS δ (tstD (evE G F c δ)) (λ k' => if k' then evSs G F fu a δ else evSs G F fu b δ) := by rw [evS]
 rw [q, h]
 exact ha
theorem q4y {t : DV} (h : run G T fu k 2 [t, .int 12] = some (.v (.bl false) false)) : run G T fu (k + 1) 1 [t] = some (.x "NoPlan") := by
 rw [q0m (fd := q1d) rfl rfl]
 unfold q1d
 have e1 : evE G (run G T fu k) (.not (.call 2 [.var 0, .glb "MOST_ASKS_DEEP"])) (q0k 1 [t]) = some (.ok (.bl true) .strong) := q1H (x := false) (q0f (l := [(t, .strong), (.int 12, .strong)]) rfl rfl h)
 exact z3L (z0t (q0r e1) (q9x (z0u (by decide +kernel) q0z)))
theorem q7g {p : Pl} (ho : Okp p) (h : ¬(ht p <= 12 /\ lv p <= 301)) (hk : ht p + 2 < k) : run G T fu (k + 1) 1 [dv p] = some (.x "NoPlan") := by
 by_cases h1 : ht p <= 12
 ·have e0 := q7o (fu := fu) p 12 k ho hk
  rw [decide_eq_true h1] at e0
  rw [q0m (fd := q1d) rfl rfl]
  unfold q1d
  have e1 : evE G (run G T fu k) (.bin .Add (.glb "MOST_ASKS") (.int 1)) (q0k 1 [dv p]) = some (.ok (.int 301) .strong) := rfl
  have e2 := b_gt (q0f (G := G) (F := run G T fu k) (δ := q0k 1 [dv p]) (f := 8) (q0a (q0b (n := 0) rfl) q0d) rfl (q1Z p k (by omega))) e1
  rw [decide_eq_true (show (301 : Int) < (lv p : Int) by omega)] at e2
  refine z3L (q0Y (q0r (cl := .strong) (q1H (x := true) (q0f (l := [(dv p, .strong), (.int 12, .strong)]) rfl rfl e0))) (z0t (q0r e2) (q9x (z0u (by decide +kernel) q0z))))
 ·have e0 := q7o (fu := fu) p 12 k ho hk
  rw [decide_eq_false h1] at e0
  exact q4y e0
theorem q5A {t : DV} (h : run G T fu k 1 [t] = some (.x "NoPlan")) : run G T fu (k + 1) 20 [t] = some (.v (.bl true) false) := by
 rw [q0m (fd := q1v) rfl rfl]
 unfold q1v
 have b1 : evSs G (run G T fu k) fu [.exp (.call 1 [.var 0])] [.val t, .val .non, .no] = some (.ex "NoPlan" [.val t, .val .non, .no]) :=
  q9x (z2f (q9H (q0a (q0b rfl) q0d) h))
 have b2 : evS G (run G T fu k) fu (.tryc [.exp (.call 1 [.var 0])] "TalkError" 2 1) [.val t, .val .non, .no] = some (.nx [.val t, .val (.exc "NoPlan"), .no]) := by
  show tryD G "TalkError" 2 1 (evSs G (run G T fu k) fu [.exp (.call 1 [.var 0])] [.val t, .val .non, .no]) = _
  rw [b1]
  rfl
 exact q0K (q0O (q0E (d := .non) (cl := .strong) rfl rfl) (q0O b2 (q0Y (q0r (x := false) (cl := .strong) rfl) (q0G rfl))))
theorem pln : ∀ (p : Pl) (n : Nat), ht p < n -> (dv p).plain n = true
 | .fin v, n + 1, _ => by
  unfold dv DV.plain
  simp only [DV.plains, DV.plain, Bool.and_true, Bool.and_eq_true]
  decide +kernel
 | .ask s o a b, n + 1, h => by
  unfold ht at h
  have h1 := pln a n (by omega)
  have h2 := pln b n (by omega)
  unfold dv DV.plain
  simp only [DV.plains, h1, h2, Bool.and_true, Bool.and_eq_true]
  refine ⟨by unfold DV.plain; decide +kernel, ?_, by unfold DV.plain; rfl⟩
  cases s
  ·show DV.plain n (.str "column") = true; unfold DV.plain; decide +kernel
  ·show DV.plain n (.str "row") = true; unfold DV.plain; decide +kernel
theorem q8N : ∀ p : Pl, deq (dv p) (dv p) = true
 | .fin v => by simp [dv, deq, deqs]
 | .ask s o a b => by
  have h1 := q8N a
  have h2 := q8N b
  cases s <;> simp [dv, deq, deqs, side, h1, h2]
theorem z4h {p : Pl} (h : ht p < 60) : cmpD .NotEq (dv p) (dv p) = some false := by
 have e : cmpD .NotEq (dv p) (dv p) = if (dv p).plain 60 && (dv p).plain 60 then some (!deq (dv p) (dv p)) else none := by cases p <;> rfl
 rw [e, pln p 60 h, q8N]
 rfl
end k11
end
section
namespace k11
open PySem L2
variable {fu k : Nat} {F : Nat -> List DV -> Option Ou} {δ : List Sv} {ds : List DV} {cl : Cl}
theorem q5G {x : Int} : run G T fu (k + 1) 9 [.int x] = some (.v (.bl true) false) := by
 rw [q0m (fd := q2I) rfl rfl]
 unfold q2I
 exact q0K (q0G rfl)
theorem q9n {e : ME} {x y : DV} {i j : Nat} (h : evE G F e δ = some (.ok (.tup [x, y]) .strong)) : evS G F fu (.sett [i, j] e) δ = some (.nx ((δ.set i (.val x)).set j (.val y))) := by
 have q : evS G F fu (.sett [i, j] e) δ = Re.thnS δ (evE G F e δ) (λ d c => if c = .strong \/ c = .fresh then (match q6Z d with | some (_, ds) => (q2Q δ [i, j] ds).map Out.nx | none => none) else none) := by rw [evS] <;> rfl
 rw [q, h]
 rfl
section
variable {G : Gs} {a b : ME} {r : List ME} {cx : Cl} {o : Option Re}
theorem or_t (ha : evE G F a δ = some (.ok (.bl true) cx)) : evE G F (.or (a :: b :: r)) δ = some (.ok (.bl true) cx) := by
 have e : evE G F (.or (a :: b :: r)) δ = Re.thn (evE G F a δ) (λ x c => orD x c (evOr G F (b :: r) δ)) := by
  rw [evE, evOr]; rfl
 rw [e, ha, q1o]
 rfl
end
noncomputable abbrev Sg (p : Pl) (c d e : Sv) : List Sv := [.val (dv p), .val (.int (ht p)), .val (.int ((lv p - 1 : Nat) : Int)), c, d, e]
theorem q8l (p : Pl) : isiD G (dv p) ["tuple"] = some true := by cases p <;> rfl
theorem q7Z (p : Pl) (ho : Okp p) (h : ht p <= 40) (hk : 50 <= k) : run G T fu (k + 1) 21 [dv p] = some (.v (.bl true) false) := by
 have lp := q6w p
 rw [q0m (fd := q2u) rfl rfl]
 unfold q2u
 have g1 := b_gt (q0b (G := G) (F := run G T fu k) (n := 1) (d := .int (ht p)) (δ := Sg p .no .no .no) rfl) (q0c (i := 12))
 have g2 := b_gt (q0b (G := G) (F := run G T fu k) (n := 2) (d := .int ((lv p - 1 : Nat) : Int)) (δ := Sg p .no .no .no) rfl) (q0c (i := 300))
 refine q0K (q0O (q9n (x := .int (ht p)) (y := .int ((lv p - 1 : Nat) : Int)) (q0f (q0a (q0b rfl) q0d) rfl (q4c p k (by omega)))) ?_)
 show evSs G (run G T fu k) fu _ (Sg p .no .no .no) = _
 by_cases hh : ht p <= 12 /\ lv p <= 301
 ·rw [decide_eq_false (show ¬ (12 : Int) < (ht p : Int) by omega)] at g1
  rw [decide_eq_false (show ¬ (300 : Int) < ((lv p - 1 : Nat) : Int) by omega)] at g2
  obtain ⟨k, rfl⟩ : ∃ k', k = k' + 1 := ⟨k - 1, by omega⟩
  have m := z3G (fu := fu) p ho hh.1 hh.2 (k := k) (by omega)
  have bt := q8d (fu := fu) p (k + 1) (by omega)
  have oc := q1Z (fu := fu) p (k + 1) (by omega)
  refine q0Y (q0r (q1D g1 g2)) (q0O (q0E (d := dv p) (cl := .strong) (q0f (q0a (q0b rfl) q0d) rfl m) rfl) (q0Y (q0r (x := false) (cl := .strong) (q1D (cx := .strong) (q1H (x := true) (cl := .strong) ?_) (q1Q (q0b rfl) (q0b rfl) (z4h (by omega))))) (q0O (q0E (d := .int (ht p)) (cl := .strong) (q0f (q0a (q0b rfl) q0d) rfl bt) rfl) (q0O (q0E (d := .int (lv p)) (cl := .strong) (q0f (q0a (q0b rfl) q0d) rfl oc) rfl) (q0G (q0D (cl := .strong) ?_))))))
  ·show Re.thn (evE G _ (.var 3) _) _ = _
   rw [q0b (d := dv p) rfl, q1o, q8l]
   rfl
  ·have b1 := b_eq (q0b (G := G) (F := run G T fu (k + 1)) (n := 4) (d := .int (ht p)) (δ := Sg p (.val (dv p)) (.val (.int (ht p))) (.val (.int (lv p)))) rfl) (q0b (n := 1) (d := .int (ht p)) rfl)
   have b2 := b_eq (q0b (G := G) (F := run G T fu (k + 1)) (n := 5) (d := .int (lv p)) (δ := Sg p (.val (dv p)) (.val (.int (ht p))) (.val (.int (lv p)))) rfl) (q1V (q0b (n := 2) (d := .int ((lv p - 1 : Nat) : Int)) rfl) (q0c (i := 1)))
   rw [beq_self_eq_true] at b1
   rw [show (((lv p : Nat) : Int) == ((lv p - 1 : Nat) : Int) + 1) = true by rw [beq_iff_eq]; omega] at b2
   exact q2d (q0f (q0a (q0b rfl) q0d) rfl q5G) (q2d b1 (q2d (q0f (q0a (q0b rfl) q0d) rfl q5G) (q5Q b2)))
 ·obtain ⟨k, rfl⟩ : ∃ k', k = k' + 2 := ⟨k - 2, by omega⟩
  have rf := q5A (q7g (fu := fu) (k := k) ho hh (by omega))
  refine q1N (q0r (x := true) (cl := .strong) ?_) (q0G (q0D (cl := .strong) (q0f (q0a (q0b rfl) q0d) rfl rf)))
  by_cases h1 : ht p <= 12
  ·rw [decide_eq_false (show ¬ (12 : Int) < (ht p : Int) by omega)] at g1
   rw [decide_eq_true (show (300 : Int) < ((lv p - 1 : Nat) : Int) by omega)] at g2
   exact q1D g1 g2
  ·rw [decide_eq_true (show (12 : Int) < (ht p : Int) by omega)] at g1
   exact or_t g1
end k11
end
section
namespace k11
open PySem L2
variable {fu k : Nat} {F : Nat -> List DV -> Option Ou} {δ : List Sv} {ds : List DV} {cl : Cl}
theorem q6v {xs : List Int} (h : 0 < xs.length) (i : Int) : ∃ v, ixD (.lst (xs.map DV.int)) (.int (i % ((xs.map DV.int).length : Int))) = some (.int v) := by
 rw [List.length_map]
 exact q2E (Int.emod_nonneg _ (by omega)) (Int.emod_lt_of_pos _ (by omega))
theorem q5a {e : ME} {v : Int} {c : Cl} (h : evE G F e δ = some (.ok (.int v) c)) : evE G F (.tup [.str "end", .bin .Mod e (.int 10)]) δ = some (.ok (dv (.fin (v % 10))) .strong) :=
 q2G (q0a q0z (q0a (q1s h q0c (by decide)) q0d)) (show 2 <= mostLen by decide) rfl
theorem q6d (v : Int) : Okp (.fin (v % 10)) := ⟨Int.emod_nonneg _ (by decide), by have := Int.emod_lt_of_pos v (b := 10) (by decide); omega⟩
theorem z0o (xs : List Int) (hx : 0 < xs.length) : ∀ d : Nat, ∃ p, Okp p /\ ht p = d /\ ∀ k, d < k -> run G T fu k 14 [.lst (xs.map DV.int), .int d] = some (.v (dv p) false) := by
 intro d
 induction d with
 | zero =>
  obtain ⟨v, hv⟩ := q2E (l := xs) (i := 0) (by omega) (by omega)
  refine ⟨.fin (v % 10), q6d v, rfl, λ k hk => ?_⟩
  obtain ⟨k, rfl⟩ : ∃ k', k = k' + 1 := ⟨k - 1, by omega⟩
  rw [q0m (fd := q1u) rfl rfl]
  unfold q1u
  exact q0K (q1N (q0r (b_eq (i := 0) (j := 0) (q0b rfl) q0c)) (q0G (q0D (cl := .strong) (q5a (q0s (q0b rfl) q0c hv)))))
 | succ d ih =>
  obtain ⟨p, h1, h2, h3⟩ := ih
  obtain ⟨s, hs⟩ := q5W ((d + 1 : Nat) : Int)
  obtain ⟨v, hv⟩ := q6v hx ((d + 1 : Nat) : Int)
  obtain ⟨o, ho⟩ := q3I v
  refine ⟨.ask s o p p, ⟨by omega, by omega, h1, h1⟩, by rw [q3h]; omega, λ k hk => ?_⟩
  obtain ⟨k, rfl⟩ : ∃ k', k = k' + 1 := ⟨k - 1, by omega⟩
  have e := h3 k (by omega)
  rw [show (d : Int) = ((d + 1 : Nat) : Int) - 1 by omega] at e
  rw [q0m (fd := q1u) rfl rfl]
  unfold q1u
  have c0 := b_eq (q0b (G := G) (F := run G T fu k) (n := 1) (d := .int ((d + 1 : Nat) : Int)) (δ := q0k 3 [.lst (xs.map DV.int), .int ((d + 1 : Nat) : Int)]) rfl) (q0c (i := 0))
  rw [show (((d + 1 : Nat) : Int) == 0) = false by rw [beq_eq_false_iff_ne]; omega] at c0
  have ec := q1V (q0c (i := 1)) (q1s (q0s (G := G) (F := run G T fu k) (δ := [.val (.lst (xs.map DV.int)), .val (.int ((d + 1 : Nat) : Int)), .val (dv p)]) (q0b (n := 0) rfl) (q1s (q0b (n := 1) rfl) (q8r (q0b (n := 0) rfl)) (by rw [List.length_map]; omega)) hv) (q0c (i := 255)) (by decide))
  rw [ho] at ec
  refine q0K (q0Y (q0r c0) (q0O (q0E (d := dv p) (cl := .strong) (q0f (q0a (q0b rfl) (q0a (q3n (q0b rfl) q0c) q0d)) rfl e) rfl) (q0G (q0D (cl := .strong) ?_))))
  exact q2G (q0a q0z (q0a (q0s q9q (q1s (q0b rfl) q0c (by decide)) hs) (q0a ec (q0a (q0b rfl) (q0a (q0b rfl) q0d))))) (show 5 <= mostLen by decide) rfl
noncomputable abbrev Sr (xs : List Int) (n : Nat) (p x y z : Sv) : List Sv := [.val (.lst (xs.map DV.int)), .val (.int n), p, x, y, z]
theorem z4y (xs : List Int) (hx : 0 < xs.length) (n : Nat) (hn : n <= 100) : ∃ p, Okp p /\ ht p <= n /\ run G T fu (k + 1) 13 [.lst (xs.map DV.int), .int n] = some (.v (dv p) false) := by
 obtain ⟨v0, hv0⟩ := q2E (l := xs) (i := 0) (by omega) (by omega)
 obtain ⟨δ1, l1, p, x, y, z, hp, rfl⟩ := q3k (i := 3) (I := λ j δ => ∃ (p : Pl) (x y z : Sv), (Okp p /\ ht p <= j) /\ δ = Sr xs n (.val (dv p)) x y z)
  (body := λ δ' => evSs G (run G T fu k) fu [.set 4 false (.tup [.str "end", .bin .Mod (.ix (.var 0) (.bin .Mod (.bin .Add (.var 3) (.int 1)) (.bi .len [.var 0]))) (.int 10)]), .set 5 false (.ix (.lst [.str "row", .str "column"]) (.bin .Mod (.ix (.var 0) (.bin .Mod (.var 3) (.bi .len [.var 0]))) (.int 2))), .iff (.cmp .Eq (.bin .Mod (.ix (.var 0) (.bin .Mod (.bin .Add (.var 3) (.int 2)) (.bi .len [.var 0]))) (.int 2)) (.int 0)) [.set 2 false (.tup [.str "ask", .var 5, .bin .Add (.int 1) (.bin .Mod (.ix (.var 0) (.bin .Mod (.var 3) (.bi .len [.var 0]))) (.int 255)), .var 2, .var 4])] [.set 2 false (.tup [.str "ask", .var 5, .bin .Add (.int 1) (.bin .Mod (.ix (.var 0) (.bin .Mod (.var 3) (.bi .len [.var 0]))) (.int 255)), .var 4, .var 2])]] δ') n 0 (δ := Sr xs n (.val (dv (.fin (v0 % 10)))) .no .no .no)
  (λ j hj δ I => by
   obtain ⟨p, x, y, z, ⟨ho, hp⟩, rfl⟩ := I
   rw [show (0 : Int) + (j : Int) = j by omega]
   obtain ⟨v1, h1⟩ := q6v hx ((j : Int) + 1)
   obtain ⟨v2, h2⟩ := q6v hx ((j : Int) + 2)
   obtain ⟨v3, h3⟩ := q6v hx (j : Int)
   obtain ⟨s, hs⟩ := q5W v3
   obtain ⟨c, hc⟩ := q3I v3
   have ml : ∀ {i : Int} {e : ME} {F : Nat -> List DV -> Option Ou} {a x y z : Sv} {c : Cl} {v : Int}, ixD (.lst (xs.map DV.int)) (.int (i % ((xs.map DV.int).length : Int))) = some (.int v) -> evE G F e (Sr xs n a x y z) = some (.ok (.int i) c) -> evE G F (.ix (.var 0) (.bin .Mod e (.bi .len [.var 0]))) (Sr xs n a x y z) = some (.ok (.int v) .strong) := λ hv he =>
    q0s (cx := .strong) (q0b rfl) (q1s he (q8r (q0b rfl)) (by rw [List.length_map]; omega)) hv
   have ec := q1V (q0c (i := 1)) (q1s (ml (F := run G T fu k) (a := .val (dv p)) (x := .val (.int (j : Int))) (y := .val (dv (.fin (v1 % 10)))) (z := .val (side s)) h3 (q0b (n := 3) rfl)) (q0c (i := 255)) (by decide))
   rw [hc] at ec
   have cq := b_eq (q1s (ml (F := run G T fu k) (a := .val (dv p)) (x := .val (.int (j : Int))) (y := .val (dv (.fin (v1 % 10)))) (z := .val (side s)) h2 (q1V (q0b (n := 3) rfl) (q0c (i := 2)))) (q0c (i := 2)) (by decide)) (q0c (i := 0))
   have o1 := q6d v1
   have hcc : 1 <= c /\ c <= 255 := by omega
   cases hz : (v2 % 2 == 0) with
   | true =>
    rw [hz] at cq
    exact ⟨_, q0O (q0E (d := dv (.fin (v1 % 10))) (cl := .strong) (q5a (ml h1 (q1V (q0b rfl) q0c))) rfl) (q0O (q0E (d := side s) (cl := .strong) (q0s q9q (q1s (ml h3 (q0b rfl)) q0c (by decide)) hs) rfl) (z0b (q0r cq) (q0O (q0E (d := dv (.ask s c p (.fin (v1 % 10)))) (cl := .strong) (q2G (q0a q0z (q0a (q0b rfl) (q0a ec (q0a (q0b rfl) (q0a (q0b rfl) q0d))))) (show 5 <= mostLen by decide) rfl) rfl) rfl) rfl)), .ask s c p (.fin (v1 % 10)), _, _, _, ⟨⟨hcc.1, hcc.2, ho, o1⟩, by rw [q3h]; show max (ht p) 0 + 1 <= j + 1; omega⟩, rfl⟩
   | false =>
    rw [hz] at cq
    exact ⟨_, q0O (q0E (d := dv (.fin (v1 % 10))) (cl := .strong) (q5a (ml h1 (q1V (q0b rfl) q0c))) rfl) (q0O (q0E (d := side s) (cl := .strong) (q0s q9q (q1s (ml h3 (q0b rfl)) q0c (by decide)) hs) rfl) (z0l (q0r cq) (q0O (q0E (d := dv (.ask s c (.fin (v1 % 10)) p)) (cl := .strong) (q2G (q0a q0z (q0a (q0b rfl) (q0a ec (q0a (q0b rfl) (q0a (q0b rfl) q0d))))) (show 5 <= mostLen by decide) rfl) rfl) rfl) rfl)), .ask s c (.fin (v1 % 10)) p, _, _, _, ⟨⟨hcc.1, hcc.2, o1, ho⟩, by rw [q3h]; show max 0 (ht p) + 1 <= j + 1; omega⟩, rfl⟩) ⟨.fin (v0 % 10), .no, .no, .no, ⟨q6d v0, Nat.le_refl _⟩, rfl⟩
 refine ⟨p, hp.1, hp.2, ?_⟩
 rw [q0m (fd := q1b) rfl rfl]
 unfold q1b
 exact q0K (q0O (q0E (d := dv (.fin (v0 % 10))) (cl := .strong) (q5a (q0s (q0b rfl) q0c hv0)) rfl) (q8n (z2C (n := n) (q0b rfl) (by omega)) (.inr rfl) l1 (q0G ((q0D (cl := .strong) (q0b (d := dv p) rfl)).trans (by cases p <;> rfl)))))
end k11
end
section
namespace k11
open PySem L2
variable {fu k : Nat} {F : Nat -> List DV -> Option Ou} {δ : List Sv} {ds : List DV} {cl : Cl}
noncomputable def Few (l : List Pl) : Prop := ∀ p ∈ l, Okp p /\ ht p <= 4
theorem plns : ∀ {l : List Pl}, Few l -> DV.plains 59 (l.map dv) = true
 | [], _ => by simp [DV.plains]
 | p :: l, h => by
  show (DV.plain 59 (dv p) && DV.plains 59 (l.map dv)) = true
  rw [pln p 59 (by have := (h p (List.mem_cons_self ..)).2; omega), plns λ q hq => h q (List.mem_cons_of_mem _ hq)]
  rfl
theorem q7Y {p : Pl} {l : List Pl} (h : Few (p :: l)) : (Okp p /\ ht p <= 4) /\ Few l := ⟨h p (List.mem_cons_self ..), λ q hq => h q (List.mem_cons_of_mem _ hq)⟩
theorem q9M {v : Int} {l : List DV} : q2p (k + 1) (dv (.fin v)) l = if decide (("end" : Str) = "end") && (dv (.fin v)).plain 60 && DV.plains 59 l then (match l with | [] => some (dv (.fin v), []) | y :: l' => some (y, l')) else none := rfl
theorem q9A {s : Bool} {o : Nat} {a b : Pl} {l : List DV} : q2p (k + 1) (dv (.ask s o a b)) l = if decide (("ask" : Str) ≠ "end") && ((("ask" : Str)).cps.all (· < 0x110000)) then (match q2p k (dv a) l with
   | none => none
   | some (n, l1) => match q2p k (dv b) l1 with
    | none => none
    | some (y, l2) => some (.tup [.str "ask", side s, .int o, n, y], l2)) else none := rfl
theorem q8m : ∀ (p : Pl) (k : Nat) (l : List Pl), ht p < k -> ht p <= 50 -> Okp p -> Few l -> ∃ q l', q2p k (dv p) (l.map dv) = some (dv q, l'.map dv) /\ Okp q /\ ht q <= ht p + 4 /\ Few l'
 | p, 0, _, h, _, _, _ => absurd h (Nat.not_lt_zero _)
 | .fin v, k + 1, l, _, _, ho, hl => by
  rw [q9M, plns hl, pln (.fin v) 60 (by unfold ht; omega), decide_eq_true rfl]
  cases l with
  | nil => exact ⟨.fin v, [], rfl, ho, by omega, hl⟩
  | cons p l => exact ⟨p, l, rfl, (q7Y hl).1.1, by have := (q7Y hl).1.2; omega, (q7Y hl).2⟩
 | .ask s o a b, k + 1, l, h, h5, ho, hl => by
  rw [q3h] at h h5
  obtain ⟨h1, h2, h3, h4⟩ := ho
  obtain ⟨qa, la, ea, oa, ta, fa⟩ := q8m a k l (by omega) (by omega) h3 hl
  obtain ⟨qb, lb, eb, ob, tb, fb⟩ := q8m b k la (by omega) (by omega) h4 fa
  refine ⟨.ask s o qa qb, lb, ?_, ⟨h1, h2, oa, ob⟩, by rw [q3h, q3h]; omega, fb⟩
  rw [q9A, if_pos (by decide +kernel), ea]
  show (match q2p k (dv b) (la.map dv) with | none => none | some (y, l2) => some (DV.tup [.str "ask", side s, .int o, dv qa, y], l2)) = _
  rw [eb]
  rfl
theorem z2t {a b : ME} {c c1 : Cl} {h : Nat} (ha : evE G F a δ = some (.ok (.lst ds) c)) (hh : evE G F b δ = some (.ok (.int (h : Int)) c1)) : evE G F (.slf a b) δ = some (.ok (.lst (ds.drop h)) (Cl.anew c c)) := by
 have e : evE G F (.slf a b) δ = Re.thn (evE G F a δ) (λ x cx => Re.thn (evE G F b δ) λ l _ => match l with | .int l => (slD x (some l) none).map (λ d => Re.ok d (slCl x cx)) | _ => none) := by rw [evE] <;> rfl
 rw [e, ha, q1o, hh, q1o]
 show some (Re.ok (.lst (cutD ds (some (h : Int)) none)) (Cl.anew c c)) = _
 congr 2
 unfold cutD slIx
 dsimp only
 rw [if_neg (by omega), Int.toNat_natCast]
 congr 1
 by_cases z : h <= ds.length
 ·rw [Nat.min_eq_left z, List.take_of_length_le (by rw [List.length_drop]; exact Nat.le_refl _)]
 ·rw [Nat.min_eq_right (by omega), List.drop_of_length_le (Nat.le_refl _), List.drop_of_length_le (by omega), List.take_nil]
theorem b_le {a b : ME} {i j : Int} {cx cy : Cl} (ha : evE G F a δ = some (.ok (.int i) cx)) (hb : evE G F b δ = some (.ok (.int j) cy)) : evE G F (.cmp .LtE a b) δ = some (.ok (.bl (decide (i <= j))) .strong) := q1Q ha hb rfl
theorem z3I {i : Nat} {e : ME} {d r : DV} {fr : Bool} (h0 : δ[i]? = some (.own (.lst ds))) (h : evE G F e δ = some (.ok d .strong)) (hf : F q2D [d, .lst ds] = some (.v r fr)) : evS G F fu (.rhg i e) δ = some (.rt r false) := by
 have q : evS G F fu (.rhg i e) δ = (if G.hun then (match δ[i]? with
  | some (.own (.lst ds)) => Re.thnS δ (evE G F e δ) λ d c => if stro d c then (match F q2D [d, .lst ds] with
   | some (.v r _) => some (.rt r false)
   | _ => none) else none
  | _ => none) else none) := by rw [evS] <;> rfl
 rw [q, if_pos (show G.hun = true from rfl), h0]
 show Re.thnS δ (evE G F e δ) (λ d c => if stro d c then (match F q2D [d, .lst ds] with | some (.v r _) => some (.rt r false) | _ => none) else none) = _
 rw [h]
 show (match F q2D [d, .lst ds] with | some (.v r _) => some (Out.rt r false) | _ => none) = _
 rw [hf]
noncomputable abbrev Sb (xs : List Int) (a : Int) (l : List Pl) (x y : Sv) : List Sv := [.val (.lst (xs.map DV.int)), .val (.int a), .own (.lst (l.map dv)), x, y]
noncomputable def lgB : List MS := [.iff (.cmp .LtE (.var 4) (.var 1)) [.set 1 false (.bin .Sub (.var 1) (.var 4)), .app 2 (.call 14 [.slf (.var 0) (.var 3), .var 3])] []]
theorem z0C (xs : List Int) (hx : 4 < xs.length) (hk : 5 < k) : ∀ (L : List (Nat × Int)) (a : Int) (l : List Pl) (x y : Sv), (∀ q ∈ L, q.1 <= 4) -> L.length + l.length <= 100 -> Few l ->
  ∃ (a' : Int) (l' : List Pl) (x' y' : Sv), q2w (.many [3, 4]) (λ δ' => evSs G (run G T fu k) fu lgB δ') (L.map λ q => .tup [.int q.1, .int q.2]) (Sb xs a l x y) = some (.nx (Sb xs a' l' x' y')) /\ Few l'
 | [], a, l, x, y, _, _, hf => ⟨a, l, x, y, rfl, hf⟩
 | (d, n) :: L, a, l, x, y, hL, hlen, hf => by
  have hd : d <= 4 := hL (d, n) (List.mem_cons_self ..)
  rw [List.length_cons] at hlen
  have hb : (Tg.many [3, 4]).bind (.tup [.int d, .int n]) (Sb xs a l x y) = some (Sb xs a l (.val (.int d)) (.val (.int n))) := rfl
  have ec := b_le (q0b (G := G) (F := run G T fu k) (n := 4) (d := .int n) (δ := Sb xs a l (.val (.int d)) (.val (.int n))) rfl) (q0b (n := 1) (d := .int a) rfl)
  by_cases hc : n <= a
  ·rw [decide_eq_true hc] at ec
   obtain ⟨p, po, ph, pr⟩ := z0o (fu := fu) (xs.drop d) (by rw [List.length_drop]; omega) d
   have pr' := pr k (by omega)
   rw [List.map_drop] at pr'
   obtain ⟨a', l', x', y', g, gf⟩ := z0C xs hx hk L (a - n) (l ++ [p]) (.val (.int d)) (.val (.int n)) (λ q hq => hL q (List.mem_cons_of_mem _ hq)) (by rw [List.length_append]; show L.length + (l.length + 1) <= 100; omega) (λ q hq => by
    rcases List.mem_append.mp hq with z | z
    ·exact hf q z
    ·rw [List.mem_singleton.mp z]; exact ⟨po, by omega⟩)
   refine ⟨a', l', x', y', ?_, gf⟩
   have st : evSs G (run G T fu k) fu lgB (Sb xs a l (.val (.int d)) (.val (.int n))) = some (.nx (Sb xs (a - n) (l ++ [p]) (.val (.int d)) (.val (.int n)))) := by
    unfold lgB
    refine z0b (q0r ec) (q0O (q0E (d := .int (a - n)) (cl := .strong) (q3n (q0b rfl) (q0b rfl)) rfl) (q0O (z0s (ds := l.map dv) (d := dv p) (cl := .strong) rfl (q0f (fr := false) (l := [(.lst ((xs.map DV.int).drop d), .fresh), (.int (d : Int), .strong)]) (q0a (z2t (c := .strong) (q0b rfl) (q0b rfl)) (q0a (q0b rfl) q0d)) rfl pr') rfl (by rw [List.length_map]; exact Nat.lt_of_lt_of_le (show l.length < 101 by omega) (by decide))) rfl)) ?_
    show some (Out.nx _) = _
    rw [show Sb xs (a - n) (l ++ [p]) (.val (.int d)) (.val (.int n)) = [.val (.lst (xs.map DV.int)), .val (.int (a - n)), .own (.lst (l.map dv ++ [dv p])), .val (.int d), .val (.int n)] by show [_, _, _, _, _] = _; rw [List.map_append]; rfl]
    rfl
   exact (q5c hb st).trans g
  ·rw [decide_eq_false hc] at ec
   obtain ⟨a', l', x', y', g, gf⟩ := z0C xs hx hk L a l (.val (.int d)) (.val (.int n)) (λ q hq => hL q (List.mem_cons_of_mem _ hq)) (by omega) hf
   refine ⟨a', l', x', y', ?_, gf⟩
   have st : evSs G (run G T fu k) fu lgB (Sb xs a l (.val (.int d)) (.val (.int n))) = some (.nx (Sb xs a l (.val (.int d)) (.val (.int n)))) := q0Y (q0r ec) rfl
   exact (q5c hb st).trans g
theorem z0z (xs : List Int) (hx : 4 < xs.length) (hk : 20 < k) : ∃ p, Okp p /\ ht p <= 12 /\ run G T fu (k + 1) 16 [.lst (xs.map DV.int)] = some (.v (dv p) false) := by
 obtain ⟨v, hv⟩ := q2E (l := xs) (i := 1) (by omega) (by omega)
 obtain ⟨a', l', x', y', g, gf⟩ := z0C (fu := fu) xs hx (k := k) (by omega) [(4, 15), (4, 15), (4, 15), (3, 7), (3, 7), (2, 3), (2, 3), (1, 1), (1, 1)] (43 + v % 6) [] .no .no (by decide) (by decide) (λ q hq => absurd hq (List.not_mem_nil))
 obtain ⟨p, po, ph, pr⟩ := z0o (fu := fu) xs (by omega) 8
 obtain ⟨q, l2, e, qo, qh, _⟩ := q8m p k l' (by omega) (by omega) po gf
 refine ⟨q, qo, by omega, ?_⟩
 have hF : run G T fu k q2D [dv p, .lst (l'.map dv)] = some (.v (dv q) false) := by
  obtain ⟨k, rfl⟩ : ∃ k', k = k' + 1 := ⟨k - 1, by omega⟩
  show q3u (k + 1) q2D [dv p, .lst (l'.map dv)] = _
  unfold q3u
  dsimp only
  rw [if_pos rfl, e]
  rfl
 rw [q0m (fd := q1M) rfl rfl]
 unfold q1M
 exact q0K (q0O (q0E (d := .int (43 + v % 6)) (cl := .strong) (q1V q0c (q1s (q0s (q0b rfl) q0c hv) q0c (by decide))) rfl) (q0O (q7v rfl) (q8n (cl := .fresh) rfl (.inr rfl) g (q0G (z3I rfl (q0f (q0a (q0b rfl) (q0a q0c q0d)) rfl (pr k (by omega))) hF)))))
end k11
end
section
namespace k11
open PySem L2
variable {fu k : Nat} {F : Nat -> List DV -> Option Ou} {δ : List Sv} {ds : List DV} {cl : Cl} {P : DV}
noncomputable abbrev no : Option Ou := some (.v (.bl false) false)
theorem q8o {e : ME} {d : DV} {c : Cl} {t : Str} {b : Bool} (h : evE G F e δ = some (.ok d c)) (hi : isiD G d [t] = some b) : evE G F (.isi e [t]) δ = some (.ok (.bl b) .strong) := by
 have q : evE G F (.isi e [t]) δ = Re.thn (evE G F e δ) (λ x _ => (isiD G x [t]).map λ k => .ok (.bl k) .strong) := by rw [evE]
 rw [q, h, q1o, hi]
 rfl
theorem q4s {b : DV} {n : Int} (h : isiD G b ["tuple"] = some false) : run G T fu (k + 1) 5 [b, .int n] = no := by
 rw [q0m (fd := q1C) rfl rfl]
 unfold q1C
 exact q0K (q0G (q0D (q4i (cx := .strong) (q8o (q0b rfl) h))))
theorem q1q {l : List DV} {n : Int} (h : ((l.length : Int) == n) = false) : run G T fu (k + 1) 5 [.tup l, .int n] = no := by
 rw [q1m, h]
theorem q6Y {b : DV} {s : Str} (h : isiD G b ["str"] = some false) : run G T fu (k + 1) 6 [b, .str s] = no := by
 rw [q0m (fd := q2b) rfl rfl]
 unfold q2b
 exact q0K (q0G (q0D (q4i (cx := .strong) (q8o (q0b rfl) h))))
theorem q9R {b : DV} {x y : Int} (h : isiD G b ["int"] = some false) : run G T fu (k + 1) 0 [b, .int x, .int y] = no := by
 rw [q0m (fd := q1r) rfl rfl]
 unfold q1r
 exact q0K (q0G (q0D (q4i (cx := .strong) (q8o (q0b rfl) h))))
theorem i_bl {t : Bool} {x y : Int} : run G T fu (k + 1) 0 [.bl t, .int x, .int y] = no := by
 rw [q0m (fd := q1r) rfl rfl]
 unfold q1r
 exact q0K (q0G rfl)
theorem q7W {v x y : Int} (h : (decide (x <= v) && decide (v <= y)) = false) : run G T fu (k + 1) 0 [.int v, .int x, .int y] = no := by
 rw [q3N, h]
theorem q0B {b : DV} (h : run G T fu (k + 1) 5 [b, .int 2] = no) : run G T fu (k + 2) 3 [b] = no := by
 rw [q0m (fd := q1k) rfl rfl]
 unfold q1k
 exact q0K (q0G (q0D (cl := .strong) (q4i (q0f (q0a (q0b rfl) (q0a q0c q0d)) rfl h))))
theorem q4Z {x y : DV} (h : run G T fu (k + 1) 6 [x, .str "end"] = no) : run G T fu (k + 2) 3 [.tup [x, y]] = no := by
 rw [q0m (fd := q1k) rfl rfl]
 unfold q1k
 exact q0K (q0G (q0D (cl := .strong) (q2d (q0f (l := [(.tup [x, y], .strong), (.int 2, .strong)]) rfl rfl (q1m _ 2)) (q4i (q0f (q0a (q0s (q0b rfl) q0c rfl) (q0a q0z q0d)) rfl h)))))
theorem q3g {y : DV} (h : run G T fu (k + 1) 0 [y, .int 0, .int 9] = no) : run G T fu (k + 2) 3 [.tup [.str "end", y]] = no := by
 rw [q0m (fd := q1k) rfl rfl]
 unfold q1k
 exact q0K (q0G (q0D (cl := .strong) (q2d (q0f (l := [(.tup [.str "end", y], .strong), (.int 2, .strong)]) rfl rfl (q1m _ 2)) (q2d (q0f (l := [(.str "end", .strong), (.str "end", .strong)]) (q0a (q0s (q0b rfl) q0c rfl) (q0a q0z q0d)) rfl (q0S q5J)) (q5Q (q0f (l := [(y, .strong), (.int 0, .strong), (.int 9, .strong)]) (q0a (q0s (q0b rfl) q0c rfl) (q0a q0c (q0a rfl q0d))) rfl h))))))
theorem q0P {b : DV} (h : run G T fu (k + 1) 5 [b, .int 5] = no) : run G T fu (k + 2) 4 [b] = no := by
 rw [q0m (fd := q1j) rfl rfl]
 unfold q1j
 exact q0K (q1N (q0r (cl := .strong) (or_t (q1H (x := false) (q0f (q0a (q0b rfl) (q0a q0c q0d)) rfl h)))) (q0G rfl))
theorem q9K {x a b c d : DV} (h : run G T fu (k + 1) 6 [x, .str "ask"] = no) : run G T fu (k + 2) 4 [.tup [x, a, b, c, d]] = no := by
 rw [q0m (fd := q1j) rfl rfl]
 unfold q1j
 exact q0K (q1N (q0r (cl := .strong) (q1D (q1H (x := true) (q0f (l := [(.tup [x, a, b, c, d], .strong), (.int 5, .strong)]) rfl rfl (q1m _ 5))) (q1H (x := false) (q0f (q0a (q0s (q0b rfl) q0c rfl) (q0a q0z q0d)) rfl h)))) (q0G rfl))
theorem z0g {a b c d : DV} : evE G (run G T fu (k + 1)) (.or [.not (.call 5 [.var 0, .int 5]), .not (.call 6 [.ix (.var 0) (.int 0), .str "ask"])]) (q0k 1 [.tup [.str "ask", a, b, c, d]]) = some (.ok (.bl false) .strong) :=
 q1D (q1H (x := true) (q0f (l := [(.tup [.str "ask", a, b, c, d], .strong), (.int 5, .strong)]) rfl rfl (q1m _ 5))) (q1H (x := true) (q0f (l := [(.str "ask", .strong), (.str "ask", .strong)]) (q0a (q0s (q0b rfl) q0c rfl) (q0a q0z q0d)) rfl (q0S z0n)))
theorem q5f {a b c d : DV} (h1 : run G T fu (k + 1) 6 [a, .str "row"] = no) (h2 : run G T fu (k + 1) 6 [a, .str "column"] = no) : run G T fu (k + 2) 4 [.tup [.str "ask", a, b, c, d]] = no := by
 rw [q0m (fd := q1j) rfl rfl]
 unfold q1j
 exact q0K (q0Y (q0r z0g) (q0G (q0D (cl := .strong) (q4i (q1D (q0f (q0a (q0s (q0b rfl) q0c rfl) (q0a q0z q0d)) rfl h1) (q0f (q0a (q0s (q0b rfl) q0c rfl) (q0a q0z q0d)) rfl h2))))))
theorem q9t {s : Bool} {b c d : DV} : evE G (run G T fu (k + 1)) (.or [.call 6 [.ix (.var 0) (.int 1), .str "row"], .call 6 [.ix (.var 0) (.int 1), .str "column"]]) (q0k 1 [.tup [.str "ask", side s, b, c, d]]) = some (.ok (.bl true) .strong) := by
 cases s with
 | true => exact q5V (q0f (l := [(.str "row", .strong), (.str "row", .strong)]) (q0a (q0s (q0b rfl) q0c rfl) (q0a q0z q0d)) rfl (q0S z0d))
 | false => exact q1D (q0f (l := [(.str "column", .strong), (.str "row", .strong)]) (q0a (q0s (q0b rfl) q0c rfl) (q0a q0z q0d)) rfl (q0S q9Z)) (q0f (l := [(.str "column", .strong), (.str "column", .strong)]) (q0a (q0s (q0b rfl) q0c rfl) (q0a q0z q0d)) rfl (q0S z0a))
theorem q2o (s : Bool) {b c d : DV} {t : Bool} (h : run G T fu (k + 1) 0 [b, .int 1, .int 255] = some (.v (.bl t) false)) : run G T fu (k + 2) 4 [.tup [.str "ask", side s, b, c, d]] = some (.v (.bl t) false) := by
 rw [q0m (fd := q1j) rfl rfl]
 unfold q1j
 exact q0K (q0Y (q0r z0g) (q0G (q0D (cl := .strong) (q3K q9t (q0f (l := [(b, .strong), (.int 1, .strong), (.int 255, .strong)]) (q0a (q0s (q0b rfl) q0c rfl) (q0a q0c (q0a rfl q0d))) rfl h)))))
theorem z2e {b : DV} {d : Nat} (hd : 0 < d) (h1 : run G T fu (k + 2) 3 [b] = no) (h2 : run G T fu (k + 2) 4 [b] = no) : run G T fu (k + 3) 2 [b, .int d] = no := by
 rw [q0m (fd := q0F) rfl rfl]
 unfold q0F
 have g0 := b_gt (q0b (G := G) (F := run G T fu (k + 2)) (n := 1) (d := .int (d : Int)) (δ := q0k 2 [b, .int (d : Int)]) rfl) (q0c (i := 0))
 rw [decide_eq_true (show (0 : Int) < (d : Int) by omega)] at g0
 exact q0K (q0Y (q0r (cl := .strong) (q0f (q0a (q0b rfl) q0d) rfl h1)) (q0G (q0D (cl := .strong) (q2d g0 (q4i (q0f (q0a (q0b rfl) q0d) rfl h2))))))
theorem z2s {o : Nat} (h : 1 <= o /\ o <= 255) : run G T fu (k + 1) 0 [.int (o : Int), .int 1, .int 255] = some (.v (.bl true) false) := by
 rw [q3N, decide_eq_true (show (1 : Int) <= o by omega), decide_eq_true (show (o : Int) <= 255 by omega)]
 rfl
theorem q5Z {s : Bool} {o : Nat} {x y : DV} {d : Nat} {t : Bool} (h : 1 <= o /\ o <= 255) (h1 : run G T fu (k + 2) 2 [x, .int (d : Int)] = some (.v (.bl t) false)) (h2 : t = true -> run G T fu (k + 2) 2 [y, .int (d : Int)] = no) : run G T fu (k + 3) 2 [.tup [.str "ask", side s, .int (o : Int), x, y], .int ((d + 1 : Nat) : Int)] = no := by
 rw [q0m (fd := q0F) rfl rfl]
 unfold q0F
 have e1 : run G T fu (k + 2) 3 [.tup [.str "ask", side s, .int (o : Int), x, y]] = no := q0B (q1q rfl)
 have e2 : run G T fu (k + 2) 4 [.tup [.str "ask", side s, .int (o : Int), x, y]] = some (.v (.bl true) false) := q2o s (z2s h)
 have g0 := b_gt (q0b (G := G) (F := run G T fu (k + 2)) (n := 1) (d := .int ((d + 1 : Nat) : Int)) (δ := q0k 2 [.tup [.str "ask", side s, .int (o : Int), x, y], .int ((d + 1 : Nat) : Int)]) rfl) (q0c (i := 0))
 rw [decide_eq_true (show (0 : Int) < ((d + 1 : Nat) : Int) by omega)] at g0
 have hd1 : (d : Int) = ((d + 1 : Nat) : Int) - 1 := by omega
 rw [hd1] at h1
 refine q0K (q0Y (q0r (cl := .strong) (q0f (q0a (q0b rfl) q0d) rfl e1)) (q0G (q0D (cl := .strong) (q2d g0 (q2d (q0f (q0a (q0b rfl) q0d) rfl e2) ?_)))))
 cases t with
 | false => exact q4i (q0f (q0a (q0s (q0b rfl) q0c rfl) (q0a (q3n (q0b rfl) q0c) q0d)) rfl h1)
 | true =>
  have h2 := h2 rfl
  rw [hd1] at h2
  exact q2d (q0f (q0a (q0s (q0b rfl) q0c rfl) (q0a (q3n (q0b rfl) q0c) q0d)) rfl h1) (q5Q (q0f (q0a (q0s (q0b rfl) q0c rfl) (q0a (q3n (q0b rfl) q0c) q0d)) rfl h2))
noncomputable abbrev E1 : DV := .tup [.str "end", .int 1]
noncomputable def bads (P : DV) : List DV := [.tup [.str "end", .int 10], .tup [.str "end", .int (-1)], .tup [.str "end", .bl true], .tup [.str "end"], .tup [.str "End", .int 1], .tup [.str "end", .int 1, .int 1], .lst [.str "end", .int 1], .str "end", .non, .int 3,
 .tup [.str "ask", .str "row", .int 0, E1, P], .tup [.str "ask", .str "row", .int 256, E1, P], .tup [.str "ask", .str "row", .bl true, E1, P],
 .tup [.str "ask", .str "rows", .int 1, E1, P], .tup [.str "ask", .int 0, .int 1, E1, P], .tup [.str "ask", .str "column", .int 1, E1],
 .tup [.str "ask", .str "column", .int 1, E1, P, E1], .tup [.str "ask", .str "column", .int (-1), E1, P], .lst [.str "ask", .str "row", .int 1, E1, P],
 .tup [.str "end", .non], .tup [.str "end", .str "1"], .tup [], .tup [.str "ask", .str "row", .non, P, E1], .tup [.str "row", .str "ask", .int 1, E1, P],
 .tup [.str "ask", .lst [.str "row"], .int 1, E1, P], .tup [.dct [] [], .int 1], .tup [.str "ask", .str "row", .lst [.int 1], E1, P], .tup [.lst [.str "end"], .int 1]]
theorem q8S {b : DV} (hb : b ∈ bads P) : run G T fu (k + 2) 3 [b] = no /\ run G T fu (k + 2) 4 [b] = no := by
 unfold bads at hb
 simp only [List.mem_cons, List.not_mem_nil, or_false] at hb
 have hE : cmpD .Eq (.str "End") (.str "end") = some false := by decide +kernel
 have hr1 : cmpD .Eq (.str "rows") (.str "row") = some false := by decide +kernel
 have hr2 : cmpD .Eq (.str "rows") (.str "column") = some false := by decide +kernel
 have hra : cmpD .Eq (.str "row") (.str "ask") = some false := by decide +kernel
 rcases hb with rfl | rfl | rfl | rfl | rfl | rfl | rfl | rfl | rfl | rfl | rfl | rfl | rfl | rfl | rfl | rfl | rfl | rfl | rfl | rfl | rfl | rfl | rfl | rfl | rfl | rfl | rfl | rfl
 ·exact ⟨q3g (q7W rfl), q0P (q1q rfl)⟩
 ·exact ⟨q3g (q7W rfl), q0P (q1q rfl)⟩
 ·exact ⟨q3g i_bl, q0P (q1q rfl)⟩
 ·exact ⟨q0B (q1q rfl), q0P (q1q rfl)⟩
 ·exact ⟨q4Z (q0S hE), q0P (q1q rfl)⟩
 ·exact ⟨q0B (q1q rfl), q0P (q1q rfl)⟩
 ·exact ⟨q0B (q4s rfl), q0P (q4s rfl)⟩
 ·exact ⟨q0B (q4s rfl), q0P (q4s rfl)⟩
 ·exact ⟨q0B (q4s rfl), q0P (q4s rfl)⟩
 ·exact ⟨q0B (q4s rfl), q0P (q4s rfl)⟩
 ·exact ⟨q0B (q1q rfl), q2o true (q7W rfl)⟩
 ·exact ⟨q0B (q1q rfl), q2o true (q7W rfl)⟩
 ·exact ⟨q0B (q1q rfl), q2o true i_bl⟩
 ·exact ⟨q0B (q1q rfl), q5f (q0S hr1) (q0S hr2)⟩
 ·exact ⟨q0B (q1q rfl), q5f (q6Y rfl) (q6Y rfl)⟩
 ·exact ⟨q0B (q1q rfl), q0P (q1q rfl)⟩
 ·exact ⟨q0B (q1q rfl), q0P (q1q rfl)⟩
 ·exact ⟨q0B (q1q rfl), q2o false (q7W rfl)⟩
 ·exact ⟨q0B (q4s rfl), q0P (q4s rfl)⟩
 ·exact ⟨q3g (q9R rfl), q0P (q1q rfl)⟩
 ·exact ⟨q3g (q9R rfl), q0P (q1q rfl)⟩
 ·exact ⟨q0B (q1q rfl), q0P (q1q rfl)⟩
 ·exact ⟨q0B (q1q rfl), q2o true (q9R rfl)⟩
 ·exact ⟨q0B (q1q rfl), q9K (q0S hra)⟩
 ·exact ⟨q0B (q1q rfl), q5f (q6Y rfl) (q6Y rfl)⟩
 ·exact ⟨q4Z (q6Y rfl), q0P (q1q rfl)⟩
 ·exact ⟨q0B (q1q rfl), q2o true (q9R rfl)⟩
 ·exact ⟨q4Z (q6Y rfl), q0P (q1q rfl)⟩
theorem q5d {b : DV} {d : Nat} (hb : b ∈ bads P) (hd : 0 < d) : run G T fu (k + 3) 2 [b, .int (d : Int)] = no := z2e hd (q8S hb).1 (q8S hb).2
end k11
end
section
namespace k11
open PySem L2
variable {fu k : Nat} {F : Nat -> List DV -> Option Ou} {δ : List Sv} {ds : List DV} {cl : Cl} {P : DV}
theorem frs (d : DV) : frD d .strong = false := by cases d <;> rfl
theorem z2n {l : List DV} {m : Nat} (h : l.length = m) (h0 : 0 < m) (n : Int) : ∃ b ∈ l, ixD (.lst l) (.int (n % (m : Int))) = some b := by
 obtain ⟨j, hj⟩ := Int.eq_ofNat_of_zero_le (Int.emod_nonneg n (b := (m : Int)) (by omega))
 have hj2 : j < l.length := by have := Int.emod_lt_of_pos n (b := (m : Int)) (by omega); omega
 refine ⟨l[j], List.getElem_mem hj2, ?_⟩
 rw [hj]
 show atD l ((j : Nat) : Int) = _
 unfold atD
 rw [z1d hj2, Option.bind_some, List.getElem?_eq_getElem hj2]
theorem q7u {a b : ME} {x y : List DV} {cx cy : Cl} (ha : evE G F a δ = some (.ok (.lst x) cx)) (hb : evE G F b δ = some (.ok (.lst y) cy)) (h : x.length + y.length <= 1000) : evE G F (.bin .Add a b) δ = some (.ok (.lst (x ++ y)) (Cl.anew cx cy)) :=
 q4H ha hb (if_pos (Nat.le_trans h (by decide)))
theorem z4r (n : Int) (P : DV) : ∃ b ∈ bads P, run G T fu (k + 1) 18 [.int n, P] = some (.v b false) := by
 obtain ⟨b, hb, hat⟩ := z2n (l := bads P) (m := 28) rfl (by decide) n
 refine ⟨b, hb, ?_⟩
 rw [q0m (fd := q2K) rfl rfl]
 unfold q2K
 refine q0K (q0O (q0E (d := E1) (cl := .strong) rfl rfl) (q0O (q0E (d := .lst ((bads P).take 10)) (cl := .fresh) rfl rfl) (q0O (q0E (d := .lst ((bads P).take 13)) (cl := .fresh) (q7u (cx := .strong) (cy := .fresh) (x := (bads P).take 10) (y := ((bads P).drop 10).take 3) (q0b rfl) rfl (show 10 + 3 <= 1000 by decide)) rfl) (q0O (q0E (d := .lst ((bads P).take 16)) (cl := .fresh) (q7u (cx := .strong) (cy := .fresh) (x := (bads P).take 13) (y := ((bads P).drop 13).take 3) (q0b rfl) rfl (show 13 + 3 <= 1000 by decide)) rfl) (q0O (q0E (d := .lst ((bads P).take 19)) (cl := .fresh) (q7u (cx := .strong) (cy := .fresh) (x := (bads P).take 16) (y := ((bads P).drop 16).take 3) (q0b rfl) rfl (show 16 + 3 <= 1000 by decide)) rfl)
  (q0O (q0E (d := .lst ((bads P).take 24)) (cl := .fresh) (q7u (cx := .strong) (cy := .fresh) (x := (bads P).take 19) (y := ((bads P).drop 19).take 5) (q0b rfl) rfl (show 19 + 5 <= 1000 by decide)) rfl) (q0O (q0E (d := .lst (bads P)) (cl := .fresh) (q7u (cx := .strong) (cy := .fresh) (x := (bads P).take 24) (y := ((bads P).drop 24).take 4) (q0b rfl) rfl (show 24 + 4 <= 1000 by decide)) rfl) (q0G ?_))))))))
 have e := q0D (fu := fu) (q0s (G := G) (F := run G T fu k) (δ := [.val (.int n), .val P, .val E1, .val (.lst (bads P))]) (q0b (n := 3) rfl) (q1s (q0b (n := 0) rfl) (q0c (i := 28)) (by decide)) hat)
 rw [show frD b (Cl.strong).item = false from frs b] at e
 exact e
noncomputable abbrev Ss (p : Pl) (xs : List Int) (z : Sv) : List Sv := [.val (dv p), .val (.lst (xs.map DV.int)), z]
theorem z0q {d : Nat} {v : Int} (h : 0 <= v /\ v <= 9) : run G T fu (k + 3) 2 [.tup [.str "end", .int v], .int (d : Int)] = some (.v (.bl true) false) := by
 have := q7o (fu := fu) (.fin v) d (k + 3) h (by unfold ht; omega)
 rw [decide_eq_true (show ht (.fin v) <= d by unfold ht; omega)] at this
 exact this
theorem q7U (p : Pl) (xs : List Int) (hx : xs.length = 3) : ∃ t, run G T fu (k + 2) 19 [dv p, .lst (xs.map DV.int)] = some (.v t false) /\ ∀ k', run G T fu (k' + 6) 2 [t, .int 12] = no := by
 obtain ⟨a0, h0⟩ := q2E (l := xs) (i := 0) (by omega) (by omega)
 obtain ⟨a1, h1⟩ := q2E (l := xs) (i := 1) (by omega) (by omega)
 obtain ⟨a2, h2⟩ := q2E (l := xs) (i := 2) (by omega) (by omega)
 obtain ⟨o, ho⟩ := q3I a2
 have hoo : 1 <= o /\ o <= 255 := by omega
 obtain ⟨b, hb, eb⟩ := z4r (fu := fu) (k := k) a0 (dv p)
 have c0 := b_eq (q1s (q0s (G := G) (F := run G T fu (k + 1)) (δ := Ss p xs (.val b)) (q0b (n := 1) rfl) (q0c (i := 1)) h1) (q0c (i := 3)) (by decide)) (q0c (i := 0))
 have c1 := b_eq (q1s (q0s (G := G) (F := run G T fu (k + 1)) (δ := Ss p xs (.val b)) (q0b (n := 1) rfl) (q0c (i := 1)) h1) (q0c (i := 3)) (by decide)) (q0c (i := 1))
 have ec := q1V (q0c (i := 1)) (q1s (q0s (G := G) (F := run G T fu (k + 1)) (δ := Ss p xs (.val b)) (q0b (n := 1) rfl) (q0c (i := 2)) h2) (q0c (i := 255)) (by decide))
 rw [ho] at ec
 have st : evS G (run G T fu (k + 1)) fu (.set 2 false (.call 18 [.ix (.var 1) (.int 0), .var 0])) (q0k 3 [dv p, .lst (xs.map DV.int)]) = some (.nx (Ss p xs (.val b))) := q0E (cl := .strong) (q0f (q0a (q0s (q0b rfl) q0c h0) (q0a (q0b rfl) q0d)) rfl eb) rfl
 have rv := q0D (fu := fu) (q0b (G := G) (F := run G T fu (k + 1)) (n := 2) (d := b) (δ := Ss p xs (.val b)) rfl)
 rw [frs] at rv
 cases z0 : (a1 % 3 == 0) with
 | true =>
  rw [z0] at c0
  refine ⟨b, ?_, λ k' => q5d (k := k' + 3) (d := 12) hb (by decide)⟩
  rw [q0m (fd := q0J) rfl rfl]
  unfold q0J
  exact q0K (q0O st (q1N (q0r c0) (q0G rv)))
 | false =>
  rw [z0] at c0
  cases z1 : (a1 % 3 == 1) with
  | true =>
   rw [z1] at c1
   refine ⟨.tup [.str "ask", side false, .int (o : Int), b, .tup [.str "end", .int 3]], ?_, λ k' => q5Z (k := k' + 3) (d := 11) (t := false) hoo (q5d (k := k' + 2) (d := 11) hb (by decide)) (λ z => nomatch z)⟩
   rw [q0m (fd := q0J) rfl rfl]
   unfold q0J
   exact q0K (q0O st (q0Y (q0r c0) (q1N (q0r c1) (q0G (q0D (cl := .strong) (q2G (q0a q0z (q0a q0z (q0a ec (q0a (q0b rfl) (q0a (x := .tup [.str "end", .int 3]) (cx := .strong) rfl q0d))))) (show 5 <= mostLen by decide) rfl))))))
  | false =>
   rw [z1] at c1
   refine ⟨.tup [.str "ask", side true, .int ((5 : Nat) : Int), .tup [.str "end", .int 0], .tup [.str "ask", side false, .int (o : Int), .tup [.str "end", .int 3], b]], ?_, λ k' => q5Z (k := k' + 3) (d := 11) (t := true) (by decide) (z0q (k := k' + 2) (by decide)) (λ _ => q5Z (k := k' + 2) (d := 10) (t := true) hoo (z0q (k := k' + 1) (by decide)) λ _ => q5d (k := k' + 1) (d := 10) hb (by decide))⟩
   rw [q0m (fd := q0J) rfl rfl]
   unfold q0J
   exact q0K (q0O st (q0Y (q0r c0) (q0Y (q0r c1) (q0G (q0D (cl := .strong) (q2G (q0a q0z (q0a q0z (q0a q0c (q0a (x := .tup [.str "end", .int 0]) (cx := .strong) rfl (q0a (cx := .strong) (q2G (q0a q0z (q0a q0z (q0a ec (q0a (x := .tup [.str "end", .int 3]) (cx := .strong) rfl (q0a (q0b rfl) q0d))))) (show 5 <= mostLen by decide) rfl) q0d))))) (show 5 <= mostLen by decide) rfl))))))
theorem q6a (p : Pl) (xs : List Int) (hx : xs.length = 3) : ∃ t, run G T fu (k + 2) 19 [dv p, .lst (xs.map DV.int)] = some (.v t false) /\ ∀ k', run G T fu (k' + 8) 20 [t] = some (.v (.bl true) false) := by
 obtain ⟨t, h1, h2⟩ := q7U (fu := fu) (k := k) p xs hx
 exact ⟨t, h1, λ k' => q5A (q4y (h2 k'))⟩
end k11
end
section
namespace k11
open PySem L2
variable {fu k : Nat} {F : Nat -> List DV -> Option Ou} {δ : List Sv} {ds : List DV} {cl : Cl} {P : DV}
theorem z2P {ns : List Int} {j : Nat} (h : 2 + j < ns.length) : ∃ v, ixD (.scr ns) (.int (2 + (j : Int))) = some (.int v) := by
 refine ⟨ns[2 + j], ?_⟩
 rw [show (2 : Int) + (j : Int) = ((2 + j : Nat) : Int) by push_cast; rfl]
 show ((q2Y ns.length ((2 + j : Nat) : Int)).bind λ j => ns[j]?).map DV.int = _
 rw [z1d h, Option.bind_some, List.getElem?_eq_getElem h]
 rfl
section
variable {G : Gs} {a b : ME} {r : List ME} {cx : Cl} {o : Option Re}
theorem or_f (ha : evE G F a δ = some (.ok (.bl false) cx)) (hb : evE G F (.or (b :: r)) δ = o) : evE G F (.or (a :: b :: r)) δ = o := by
 have e : evE G F (.or (a :: b :: r)) δ = Re.thn (evE G F a δ) (λ x c => orD x c (evOr G F (b :: r) δ)) := by
  rw [evE, evOr]; rfl
 have e2 : evE G F (.or (b :: r)) δ = evOr G F (b :: r) δ := by rw [evE]
 rw [e, ha, q1o, ← e2, hb]
 rfl
theorem or_1 (ha : evE G F a δ = o) : evE G F (.or [a]) δ = o := by
 have e : evE G F (.or [a]) δ = evE G F a δ := by rw [evE, evOr]; rfl
 rw [e, ha]
end
noncomputable abbrev Sl (ns xs : List Int) (z p r w : Sv) : List Sv := [.val (.scr ns), .own (.lst (xs.map DV.int)), z, p, r, w]
noncomputable def lpB : List MS := [.iff (.not (.call 20 [.call 19 [.var 3, .call 11 [.var 5, .int 3]]])) [.ret (.bl false)] []]
theorem z2k (ns xs : List Int) (p : Pl) (z r : Sv) : ∀ (L : List Int) (w : Sv), ∃ w', q2w (.one 5) (λ δ' => evSs G (run G T fu 59) fu lpB δ') (L.map DV.int) (Sl ns xs z (.val (dv p)) r w) = some (.nx (Sl ns xs z (.val (dv p)) r w'))
 | [], w => ⟨w, rfl⟩
 | c :: L, w => by
  obtain ⟨w', g⟩ := z2k ns xs p z r L (.val (.int c))
  refine ⟨w', ?_⟩
  obtain ⟨ys, hy, sy⟩ := q6N (fu := fu) (k := 58) c 3 (by decide)
  obtain ⟨t, e1, e2⟩ := q6a (fu := fu) (k := 57) p ys hy
  have rf := e2 51
  have hb : (Tg.one 5).bind (.int c) (Sl ns xs z (.val (dv p)) r w) = some (Sl ns xs z (.val (dv p)) r (.val (.int c))) := rfl
  have ev : evE G (run G T fu 59) (.not (.call 20 [.call 19 [.var 3, .call 11 [.var 5, .int 3]]])) (Sl ns xs z (.val (dv p)) r (.val (.int c))) = some (.ok (.bl false) .strong) :=
   q1H (x := true) (q0f (q0a (q0f (q0a (q0b rfl) (q0a (q0f (q0a (q0b rfl) (q0a q0c q0d)) rfl sy) q0d)) rfl e1) q0d) rfl rf)
  have st : evSs G (run G T fu 59) fu lpB (Sl ns xs z (.val (dv p)) r (.val (.int c))) = some (.nx (Sl ns xs z (.val (dv p)) r (.val (.int c)))) := q0Y (q0r ev) rfl
  exact (q5c hb st).trans g
theorem z1t : ∀ ns : List Int, ns.length <= 63 -> run G T 100 60 22 [.scr ns] = some (.v (.bl true) false) := by
 intro ns hns
 obtain ⟨v0, c0⟩ := z0m (fu := 100) (k := 58) ns 0
 obtain ⟨v1, c1⟩ := z0m (fu := 100) (k := 58) ns 1
 obtain ⟨xs0, hx0, st0⟩ := q6N (fu := 100) (k := 58) v0 40 (by decide)
 obtain ⟨b, hb, hb1, hb2⟩ : ∃ b : Int, (if (if (ns.length : Int) - 2 > 0 then (ns.length : Int) - 2 else 0) < 30 then (if (ns.length : Int) - 2 > 0 then (ns.length : Int) - 2 else 0) else 30) = b /\ 0 <= b /\ b <= 30 /\ (0 < b -> b <= (ns.length : Int) - 2) := by
  refine ⟨_, rfl, ?_, ?_, ?_⟩ <;> (repeat' split) <;> omega
 obtain ⟨δ1, l1, xs, z, hx, rfl⟩ := q3k (i := 2) (I := λ _ δ => ∃ (xs : List Int) (z : Sv), xs.length = 40 /\ δ = Sl ns xs z .no .no .no)
  (body := λ δ' => evSs G (run G T 100 59) 100 [.seti 1 (.bin .Add (.int 5) (.var 2)) (.bin .Mod (.ix (.var 0) (.bin .Add (.int 2) (.var 2))) (.int 2147483647))] δ') b.toNat 0 (δ := Sl ns xs0 .no .no .no .no)
  (λ j hj δ I => by
   obtain ⟨xs, z, hx, rfl⟩ := I
   rw [show (0 : Int) + (j : Int) = j by omega]
   obtain ⟨v, hv⟩ := z2P (ns := ns) (j := j) (by omega)
   obtain ⟨N, hN⟩ : ∃ N : Int, v % 2147483647 = N := ⟨_, rfl⟩
   have ev := q1s (q0s (G := G) (F := run G T 100 59) (δ := Sl ns xs (.val (.int (j : Int))) .no .no .no) (q0b (n := 0) rfl) (q1V (q0c (i := 2)) (q0b (n := 2) rfl)) hv) (q0c (i := 2147483647)) (by decide)
   rw [hN] at ev
   have ek := q1V (q0c (G := G) (F := run G T 100 59) (δ := Sl ns xs (.val (.int (j : Int))) .no .no .no) (i := 5)) (q0b (n := 2) (d := .int (j : Int)) rfl)
   rw [show (5 : Int) + (j : Int) = ((5 + j : Nat) : Int) by push_cast; rfl] at ek
   refine ⟨_, q0O (z1f (ds := xs.map DV.int) (j := 5 + j) rfl ev ek rfl (z1d (by rw [List.length_map, hx]; omega))) rfl, xs.set (5 + j) N, .val (.int (j : Int)), by rw [List.length_set]; exact hx, ?_⟩
   show [_, _, _, _, _, _] = [_, _, _, _, _, _]
   rw [List.map_set]) ⟨xs0, .no, hx0, rfl⟩
 obtain ⟨a1, h1⟩ := q2E (l := xs) (i := 1) (by omega) (by omega)
 obtain ⟨a2, h2⟩ := q2E (l := xs) (i := 2) (by omega) (by omega)
 obtain ⟨d, hd⟩ : ∃ d : Nat, a1 % 5 = (d : Int) := ⟨(a1 % 5).toNat, by omega⟩
 obtain ⟨n, hn⟩ : ∃ n : Nat, a2 % 14 = (n : Int) := ⟨(a2 % 14).toNat, by omega⟩
 obtain ⟨p, po, ph, _, pr⟩ := z2I (fu := 100) xs hx d 0
 have pr' := pr 59 (by omega)
 obtain ⟨q, qo, qh, qr⟩ := z4y (fu := 100) (k := 58) xs (by omega) n (by omega)
 obtain ⟨l, lo, lh, lr⟩ := z0z (fu := 100) (k := 58) xs (by omega) (by decide)
 have gp := q7Z (fu := 100) (k := 58) p po (by omega) (by decide)
 have gq := q7Z (fu := 100) (k := 58) q qo (by omega) (by decide)
 have gl := q7Z (fu := 100) (k := 58) l lo (by omega) (by decide)
 obtain ⟨w', lp⟩ := z2k (fu := 100) ns xs p z (.val (dv q)) [v1, v0] .no
 have em : evE G (run G T 100 59) (.bi .min [.int 30, .bi .max [.int 0, .bin .Sub (.bi .len [.var 0]) (.int 2)]]) (Sl ns xs0 .no .no .no .no) = some (.ok (.int b) .strong) := by
  have e1 : evE G (run G T 100 59) (.bi .len [.var 0]) (Sl ns xs0 .no .no .no .no) = some (.ok (.int ns.length) .strong) := rfl
  have e2 : evE G (run G T 100 59) (.bi .max [.int 0, .bin .Sub (.bi .len [.var 0]) (.int 2)]) (Sl ns xs0 .no .no .no .no) = some (.ok (.int (if (ns.length : Int) - 2 > 0 then (ns.length : Int) - 2 else 0)) .strong) := by
   have e : evE G (run G T 100 59) (.bi .max [.int 0, .bin .Sub (.bi .len [.var 0]) (.int 2)]) (Sl ns xs0 .no .no .no .no) = Rs.thn (evEs G (run G T 100 59) [.int 0, .bin .Sub (.bi .len [.var 0]) (.int 2)] (Sl ns xs0 .no .no .no .no)) (λ l => maxD l) := rfl
   rw [e, q0a q0c (q0a (q3n e1 q0c) q0d)]
   rfl
  rw [z3g (q0a q0c (q0a e2 q0d)), ← hb]
  rfl
 rw [q0m (fd := q9p) rfl rfl]
 unfold q9p
 have ed := q1s (q0s (G := G) (F := run G T 100 59) (δ := Sl ns xs z .no .no .no) (q3p (n := 1) rfl) (q0c (i := 1)) h1) (q0c (i := 5)) (by decide)
 rw [hd] at ed
 have en := q1s (q0s (G := G) (F := run G T 100 59) (δ := Sl ns xs z (.val (dv p)) .no .no) (q3p (n := 1) rfl) (q0c (i := 2)) h2) (q0c (i := 14)) (by decide)
 rw [hn] at en
 have wk : q1U (evE G (run G T 100 59) (.lst [.call 10 [.var 0, .int 1], .call 10 [.var 0, .int 0]]) (Sl ns xs z (.val (dv p)) (.val (dv q)) .no)) = some (.ok ([v1, v0].map DV.int) .fresh) := by
  have e : evE G (run G T 100 59) (.lst [.call 10 [.var 0, .int 1], .call 10 [.var 0, .int 0]]) (Sl ns xs z (.val (dv p)) (.val (dv q)) .no) = some (.ok (.lst ([v1, v0].map DV.int)) .fresh) :=
   z2K (q0a (q0f (q0a (q0b rfl) (q0a q0c q0d)) rfl c1) (q0a (q0f (q0a (q0b rfl) (q0a q0c q0d)) rfl c0) q0d)) (show 2 <= mostLen by decide) rfl
  rw [e]
  rfl
 have or1 : evE G (run G T 100 59) (.or [.not (.call 21 [.var 3]), .not (.call 21 [.var 4]), .not (.call 21 [.call 16 [.var 1]])]) (Sl ns xs z (.val (dv p)) (.val (dv q)) .no) = some (.ok (.bl false) .strong) :=
  or_f (q1H (x := true) (q0f (q0a (q0b rfl) q0d) rfl gp)) (or_f (q1H (x := true) (q0f (q0a (q0b rfl) q0d) rfl gq)) (or_1 (q1H (x := true) (q3G (q0a (q3G (q0a (q3p rfl) q0d) rfl lr) q0d) rfl gl))))
 exact q0K (q0O (q7v (q0f (q0a (q0f (q0a (q0b rfl) (q0a q0c q0d)) rfl c0) (q0a q0c q0d)) rfl st0)) (q8n (z4W em (by omega) (by omega)) (.inr rfl) l1
  (q0O (q0E (d := dv p) (cl := .weak) (q3G (q0a (q3p rfl) (q0a q0c (q0a ed (q0a q0c q0d)))) rfl pr') (q6x p)) (q0O (q0E (d := dv q) (cl := .weak) (q3G (q0a (q3p rfl) (q0a en q0d)) rfl qr) (q6x q))
  (q0Y (q0r or1) (q8n wk (.inr rfl) lp (q0G (q0D (cl := .strong) (q0f (q0a (q0b rfl) q0d) rfl gp)))))))))
end k11
end
section
namespace k11
open PySem L2 PySem.Spec PyProof.Rows
noncomputable def top (i : Nat) : Stmt := PySem.Challenge.pw_talkleast_k11_plans_made.main.body.getD i (.Pass ⟨0, 0, 0, 0⟩)
theorem lnS {α : Type} {us : List α} {n : Nat} (h : us.length = n + 1) : ∃ a r, us = a :: r /\ r.length = n := by cases us with | nil => cases h | cons a r => exact ⟨a, r, rfl, Nat.succ.inj h⟩
theorem fmc {α : Type} {p : α -> Prop} {a : α} {l : List α} (h : p a) (r : ∀ x ∈ l, p x) : ∀ x ∈ a :: l, p x := List.forall_mem_cons.mpr ⟨h, r⟩
theorem ln0 {α : Type} {us : List α} (h : us.length = 0) : us = [] := List.length_eq_zero_iff.mp h
theorem ln1 {α : Type} {us : List α} (h : us.length = 1) : ∃ a0, us = [a0] := by obtain ⟨_, _, rfl, h0⟩ := lnS h; obtain rfl := ln0 h0; exact ⟨_, rfl⟩
theorem ln2 {α : Type} {us : List α} (h : us.length = 2) : ∃ a0 a1, us = [a0, a1] := by obtain ⟨_, _, rfl, h0⟩ := lnS h; obtain ⟨_, _, rfl, h1⟩ := lnS h0; obtain rfl := ln0 h1; exact ⟨_, _, rfl⟩
theorem ln3 {α : Type} {us : List α} (h : us.length = 3) : ∃ a0 a1 a2, us = [a0, a1, a2] := by obtain ⟨_, _, rfl, h0⟩ := lnS h; obtain ⟨_, _, rfl, h1⟩ := lnS h0; obtain ⟨_, _, rfl, h2⟩ := lnS h1; obtain rfl := ln0 h2; exact ⟨_, _, _, rfl⟩
theorem ln4 {α : Type} {us : List α} (h : us.length = 4) : ∃ a0 a1 a2 a3, us = [a0, a1, a2, a3] := by obtain ⟨_, _, rfl, h0⟩ := lnS h; obtain ⟨_, _, rfl, h1⟩ := lnS h0; obtain ⟨_, _, rfl, h2⟩ := lnS h1; obtain ⟨_, _, rfl, h3⟩ := lnS h2; obtain rfl := ln0 h3; exact ⟨_, _, _, _, rfl⟩
noncomputable def fn : List Str := ["is_int", "made_plan", "is_plan", "is_end", "is_ask", "is_tuple", "is_text", "bits_of", "outcomes_of", "_law_int", "_law_cell_at", "_law_stream", "_law_plan", "_law_row_of_asks", "_law_full", "is_int", "_law_large", "_law_counted", "_law_bad", "_law_spoiled", "_law_refused", "_law_good", "law"]
noncomputable def bl : List Str := ["isinstance", "int", "bool", "tuple", "len", "str", "max", "range", "ValueError", "min"]
noncomputable def cl : List Str := ["TalkError", "NoTable", "NoCard", "NoPlan", "NoText"]
theorem ok0 : okD fn bl cl q1r ["thing", "least", "most"] ["thing", "least", "most"] (top 1) = true := by decide +kernel
theorem ok1 : okD fn bl cl q1d ["thing"] ["thing"] (top 13) = true := by decide +kernel
theorem ok2 : okD fn bl cl q0F ["thing", "deep"] ["thing", "deep"] (top 14) = true := by decide +kernel
theorem ok3 : okD fn bl cl q1k ["thing"] ["thing"] (top 15) = true := by decide +kernel
theorem ok4 : okD fn bl cl q1j ["thing"] ["thing"] (top 16) = true := by decide +kernel
theorem ok5 : okD fn bl cl q1C ["thing", "size"] ["thing", "size"] (top 17) = true := by decide +kernel
theorem ok6 : okD fn bl cl q2b ["thing", "text"] ["thing", "text"] (top 18) = true := by decide +kernel
theorem ok7 : okD fn bl cl q1Y ["plan"] ["plan"] (top 19) = true := by decide +kernel
theorem ok8 : okD fn bl cl q1h ["plan"] ["plan"] (top 20) = true := by decide +kernel
theorem ok9 : okD fn bl cl q2I ["_law_found"] ["_law_found"] (top 22) = true := by decide +kernel
theorem ok10 : okD fn bl cl q1w ["_law_script", "_law_k"] ["_law_script", "_law_k"] (top 23) = true := by decide +kernel
theorem ok11 : okD fn bl cl q1A ["_law_cell", "_law_many", "_law_found", "_law_number", "_law_k"] ["_law_cell", "_law_many"] (top 24) = true := by decide +kernel
theorem ok12 : okD fn bl cl q1e ["_law_xs", "_law_at", "_law_depth", "_law_wide", "_law_number", "_law_side", "_law_cards", "_law_no"] ["_law_xs", "_law_at", "_law_depth", "_law_wide"] (top 25) = true := by decide +kernel
theorem ok13 : okD fn bl cl q1b ["_law_xs", "_law_many", "_law_plan_here", "_law_k", "_law_end", "_law_side"] ["_law_xs", "_law_many"] (top 26) = true := by decide +kernel
theorem ok14 : okD fn bl cl q1u ["_law_xs", "_law_depth", "_law_below"] ["_law_xs", "_law_depth"] (top 27) = true := by decide +kernel
theorem ok15 : okD fn bl cl q1r ["thing", "least", "most"] ["thing", "least", "most"] (top 1) = true := by decide +kernel
theorem ok16 : okD fn bl cl q1M ["_law_xs", "_law_left", "_law_others", "_law_depth", "_law_asks"] ["_law_xs"] (top 29) = true := by decide +kernel
theorem ok17 : okD fn bl cl q1a ["_law_plan_here", "_law_no", "_law_yes"] ["_law_plan_here"] (top 30) = true := by decide +kernel
theorem ok18 : okD fn bl cl q2K ["_law_number", "_law_plan_here", "_law_end", "_law_some"] ["_law_number", "_law_plan_here"] (top 31) = true := by decide +kernel
theorem ok19 : okD fn bl cl q0J ["_law_plan_here", "_law_xs", "_law_bad_here"] ["_law_plan_here", "_law_xs"] (top 32) = true := by decide +kernel
theorem ok20 : okD fn bl cl q1v ["_law_thing", "_law_caught", "error"] ["_law_thing"] (top 33) = true := by decide +kernel
theorem ok21 : okD fn bl cl q2u ["_law_plan_here", "_law_deep", "_law_asks", "_law_found", "_law_bits", "_law_outcomes"] ["_law_plan_here"] (top 34) = true := by decide +kernel
theorem ok22 : okD fn bl cl q9p ["_law_script", "_law_xs", "_law_k", "_law_plan_here", "_law_row", "_law_start"] ["_law_script"] (top 35) = true := by decide +kernel
theorem okh : okH ["_law_plan_here", "_law_others", "_law_no"] ["_law_plan_here", "_law_others"] (top 28) = true := by decide +kernel
open PySem.W
theorem all_mk {l : OpenLaw} {w : World} {K : Frag} {h : Heap} {mg : Str -> Option Value} {fa f0 f1 f2 f3 f4 f5 f6 f7 f8 f9 f10 f11 f12 f13 f14 f15 f16 f17 f18 f19 f20 f21 f22 : Addr} (X : K.In h) (Ns : h.Ns mainGlobals mg) (hfa : mg "law" = some (.ref fa))
  {od0 an0 od1 an1 od2 an2 od3 an3 od4 an4 od5 an5 od6 an6 od7 an7 od8 an8 od9 an9 od10 an10 od11 an11 od12 an12 od13 an13 od14 an14 od15 an15 od16 an16 od17 an17 od18 an18 od19 an19 od20 an20 od21 an21 od22 an22 : Option Addr} {sl0 sl1 sl2 sl3 sl4 sl5 sl6 sl7 sl8 sl9 sl10 sl11 sl12 sl13 sl14 sl15 sl16 sl17 sl18 sl19 sl20 sl21 sl22 : Array (Option Value)} {oc0 kV0 dc0 pm0 cd0 ct0 oc1 kV1 dc1 pm1 cd1 ct1 oc2 kV2 dc2 pm2 cd2 ct2 oc3 kV3 dc3 pm3 cd3 ct3 oc4 kV4 dc4 pm4 cd4 ct4 oc5 kV5 dc5 pm5 cd5 ct5 oc6 kV6 dc6 pm6 cd6 ct6 oc7 kV7 dc7 pm7 cd7 ct7 oc8 kV8 dc8 pm8 cd8 ct8 oc9 kV9 dc9 pm9 cd9 ct9 oc10 kV10 dc10 pm10 cd10 ct10 oc11 kV11 dc11 pm11 cd11 ct11 oc12 kV12 dc12 pm12 cd12 ct12 oc13 kV13 dc13 pm13 cd13 ct13 oc14 kV14 dc14 pm14 cd14 ct14 oc15 kV15 dc15 pm15 cd15 ct15 oc16 kV16 dc16 pm16 cd16 ct16 oc17 kV17 dc17 pm17 cd17 ct17 oc18 kV18 dc18 pm18 cd18 ct18 oc19 kV19 dc19 pm19 cd19 ct19 oc20 kV20 dc20 pm20 cd20 ct20 oc21 kV21 dc21 pm21 cd21 ct21 oc22 kV22 dc22 pm22 cd22 ct22 : Value}
  (a0 : nsIn K mainGlobals "is_int" = some (some (.ref f0))) (l0 : K.lookup f0 = some ⟨oc0, od0, .func (fnOf "is_int" "is_int" (q0n (top 1)) (q0i (top 1)) (q0e (top 1)) .none kV0 dc0 pm0 an0 cd0 ct0), sl0⟩) (c0 : codeIn K cd0 "is_int" = true) (k0 : keepIn K (.ref f0) = true)
  (a1 : nsIn K mainGlobals "made_plan" = some (some (.ref f1))) (l1 : K.lookup f1 = some ⟨oc1, od1, .func (fnOf "made_plan" "made_plan" (q0n (top 13)) (q0i (top 13)) (q0e (top 13)) .none kV1 dc1 pm1 an1 cd1 ct1), sl1⟩) (c1 : codeIn K cd1 "made_plan" = true) (k1 : keepIn K (.ref f1) = true)
  (a2 : nsIn K mainGlobals "is_plan" = some (some (.ref f2))) (l2 : K.lookup f2 = some ⟨oc2, od2, .func (fnOf "is_plan" "is_plan" (q0n (top 14)) (q0i (top 14)) (q0e (top 14)) .none kV2 dc2 pm2 an2 cd2 ct2), sl2⟩) (c2 : codeIn K cd2 "is_plan" = true) (k2 : keepIn K (.ref f2) = true)
  (a3 : nsIn K mainGlobals "is_end" = some (some (.ref f3))) (l3 : K.lookup f3 = some ⟨oc3, od3, .func (fnOf "is_end" "is_end" (q0n (top 15)) (q0i (top 15)) (q0e (top 15)) .none kV3 dc3 pm3 an3 cd3 ct3), sl3⟩) (c3 : codeIn K cd3 "is_end" = true) (k3 : keepIn K (.ref f3) = true)
  (a4 : nsIn K mainGlobals "is_ask" = some (some (.ref f4))) (l4 : K.lookup f4 = some ⟨oc4, od4, .func (fnOf "is_ask" "is_ask" (q0n (top 16)) (q0i (top 16)) (q0e (top 16)) .none kV4 dc4 pm4 an4 cd4 ct4), sl4⟩) (c4 : codeIn K cd4 "is_ask" = true) (k4 : keepIn K (.ref f4) = true)
  (a5 : nsIn K mainGlobals "is_tuple" = some (some (.ref f5))) (l5 : K.lookup f5 = some ⟨oc5, od5, .func (fnOf "is_tuple" "is_tuple" (q0n (top 17)) (q0i (top 17)) (q0e (top 17)) .none kV5 dc5 pm5 an5 cd5 ct5), sl5⟩) (c5 : codeIn K cd5 "is_tuple" = true) (k5 : keepIn K (.ref f5) = true)
  (a6 : nsIn K mainGlobals "is_text" = some (some (.ref f6))) (l6 : K.lookup f6 = some ⟨oc6, od6, .func (fnOf "is_text" "is_text" (q0n (top 18)) (q0i (top 18)) (q0e (top 18)) .none kV6 dc6 pm6 an6 cd6 ct6), sl6⟩) (c6 : codeIn K cd6 "is_text" = true) (k6 : keepIn K (.ref f6) = true)
  (a7 : nsIn K mainGlobals "bits_of" = some (some (.ref f7))) (l7 : K.lookup f7 = some ⟨oc7, od7, .func (fnOf "bits_of" "bits_of" (q0n (top 19)) (q0i (top 19)) (q0e (top 19)) .none kV7 dc7 pm7 an7 cd7 ct7), sl7⟩) (c7 : codeIn K cd7 "bits_of" = true) (k7 : keepIn K (.ref f7) = true)
  (a8 : nsIn K mainGlobals "outcomes_of" = some (some (.ref f8))) (l8 : K.lookup f8 = some ⟨oc8, od8, .func (fnOf "outcomes_of" "outcomes_of" (q0n (top 20)) (q0i (top 20)) (q0e (top 20)) .none kV8 dc8 pm8 an8 cd8 ct8), sl8⟩) (c8 : codeIn K cd8 "outcomes_of" = true) (k8 : keepIn K (.ref f8) = true)
  (a9 : nsIn K mainGlobals "_law_int" = some (some (.ref f9))) (l9 : K.lookup f9 = some ⟨oc9, od9, .func (fnOf "_law_int" "_law_int" (q0n (top 22)) (q0i (top 22)) (q0e (top 22)) .none kV9 dc9 pm9 an9 cd9 ct9), sl9⟩) (c9 : codeIn K cd9 "_law_int" = true) (k9 : keepIn K (.ref f9) = true)
  (a10 : nsIn K mainGlobals "_law_cell_at" = some (some (.ref f10))) (l10 : K.lookup f10 = some ⟨oc10, od10, .func (fnOf "_law_cell_at" "_law_cell_at" (q0n (top 23)) (q0i (top 23)) (q0e (top 23)) .none kV10 dc10 pm10 an10 cd10 ct10), sl10⟩) (c10 : codeIn K cd10 "_law_cell_at" = true) (k10 : keepIn K (.ref f10) = true)
  (a11 : nsIn K mainGlobals "_law_stream" = some (some (.ref f11))) (l11 : K.lookup f11 = some ⟨oc11, od11, .func (fnOf "_law_stream" "_law_stream" (q0n (top 24)) (q0i (top 24)) (q0e (top 24)) .none kV11 dc11 pm11 an11 cd11 ct11), sl11⟩) (c11 : codeIn K cd11 "_law_stream" = true) (k11 : keepIn K (.ref f11) = true)
  (a12 : nsIn K mainGlobals "_law_plan" = some (some (.ref f12))) (l12 : K.lookup f12 = some ⟨oc12, od12, .func (fnOf "_law_plan" "_law_plan" (q0n (top 25)) (q0i (top 25)) (q0e (top 25)) .none kV12 dc12 pm12 an12 cd12 ct12), sl12⟩) (c12 : codeIn K cd12 "_law_plan" = true) (k12 : keepIn K (.ref f12) = true)
  (a13 : nsIn K mainGlobals "_law_row_of_asks" = some (some (.ref f13))) (l13 : K.lookup f13 = some ⟨oc13, od13, .func (fnOf "_law_row_of_asks" "_law_row_of_asks" (q0n (top 26)) (q0i (top 26)) (q0e (top 26)) .none kV13 dc13 pm13 an13 cd13 ct13), sl13⟩) (c13 : codeIn K cd13 "_law_row_of_asks" = true) (k13 : keepIn K (.ref f13) = true)
  (a14 : nsIn K mainGlobals "_law_full" = some (some (.ref f14))) (l14 : K.lookup f14 = some ⟨oc14, od14, .func (fnOf "_law_full" "_law_full" (q0n (top 27)) (q0i (top 27)) (q0e (top 27)) .none kV14 dc14 pm14 an14 cd14 ct14), sl14⟩) (c14 : codeIn K cd14 "_law_full" = true) (k14 : keepIn K (.ref f14) = true)
  (a15 : nsIn K mainGlobals "is_int" = some (some (.ref f15))) (l15 : K.lookup f15 = some ⟨oc15, od15, .func (fnOf "is_int" "is_int" (q0n (top 1)) (q0i (top 1)) (q0e (top 1)) .none kV15 dc15 pm15 an15 cd15 ct15), sl15⟩) (c15 : codeIn K cd15 "is_int" = true) (k15 : keepIn K (.ref f15) = true)
  (a16 : nsIn K mainGlobals "_law_large" = some (some (.ref f16))) (l16 : K.lookup f16 = some ⟨oc16, od16, .func (fnOf "_law_large" "_law_large" (q0n (top 29)) (q0i (top 29)) (q0e (top 29)) .none kV16 dc16 pm16 an16 cd16 ct16), sl16⟩) (c16 : codeIn K cd16 "_law_large" = true) (k16 : keepIn K (.ref f16) = true)
  (a17 : nsIn K mainGlobals "_law_counted" = some (some (.ref f17))) (l17 : K.lookup f17 = some ⟨oc17, od17, .func (fnOf "_law_counted" "_law_counted" (q0n (top 30)) (q0i (top 30)) (q0e (top 30)) .none kV17 dc17 pm17 an17 cd17 ct17), sl17⟩) (c17 : codeIn K cd17 "_law_counted" = true) (k17 : keepIn K (.ref f17) = true)
  (a18 : nsIn K mainGlobals "_law_bad" = some (some (.ref f18))) (l18 : K.lookup f18 = some ⟨oc18, od18, .func (fnOf "_law_bad" "_law_bad" (q0n (top 31)) (q0i (top 31)) (q0e (top 31)) .none kV18 dc18 pm18 an18 cd18 ct18), sl18⟩) (c18 : codeIn K cd18 "_law_bad" = true) (k18 : keepIn K (.ref f18) = true)
  (a19 : nsIn K mainGlobals "_law_spoiled" = some (some (.ref f19))) (l19 : K.lookup f19 = some ⟨oc19, od19, .func (fnOf "_law_spoiled" "_law_spoiled" (q0n (top 32)) (q0i (top 32)) (q0e (top 32)) .none kV19 dc19 pm19 an19 cd19 ct19), sl19⟩) (c19 : codeIn K cd19 "_law_spoiled" = true) (k19 : keepIn K (.ref f19) = true)
  (a20 : nsIn K mainGlobals "_law_refused" = some (some (.ref f20))) (l20 : K.lookup f20 = some ⟨oc20, od20, .func (fnOf "_law_refused" "_law_refused" (q0n (top 33)) (q0i (top 33)) (q0e (top 33)) .none kV20 dc20 pm20 an20 cd20 ct20), sl20⟩) (c20 : codeIn K cd20 "_law_refused" = true) (k20 : keepIn K (.ref f20) = true)
  (a21 : nsIn K mainGlobals "_law_good" = some (some (.ref f21))) (l21 : K.lookup f21 = some ⟨oc21, od21, .func (fnOf "_law_good" "_law_good" (q0n (top 34)) (q0i (top 34)) (q0e (top 34)) .none kV21 dc21 pm21 an21 cd21 ct21), sl21⟩) (c21 : codeIn K cd21 "_law_good" = true) (k21 : keepIn K (.ref f21) = true)
  (a22 : nsIn K mainGlobals "law" = some (some (.ref f22))) (l22 : K.lookup f22 = some ⟨oc22, od22, .func (fnOf "law" "law" (q0n (top 35)) (q0i (top 35)) (q0e (top 35)) .none kV22 dc22 pm22 an22 cd22 ct22), sl22⟩) (c22 : codeIn K cd22 "law" = true) (k22 : keepIn K (.ref f22) = true)
  {fh : Addr} {odh anh : Option Addr} {slh : Array (Option Value)} {och kVh dch pmh cdh cth : Value}
  (ah : nsIn K mainGlobals "_law_hung" = some (some (.ref fh))) (lh : K.lookup fh = some ⟨och, odh, .func (fnOf "_law_hung" "_law_hung" (q0n (top 28)) (q0i (top 28)) (q0e (top 28)) .none kVh dch pmh anh cdh cth), slh⟩) (ch : codeIn K cdh "_law_hung" = true) (kh : keepIn K (.ref fh) = true)
  (z0 : nsIn K mainGlobals "isinstance" = some none)
  (z1 : nsIn K mainGlobals "int" = some none)
  (z2 : nsIn K mainGlobals "bool" = some none)
  (z3 : nsIn K mainGlobals "tuple" = some none)
  (z4 : nsIn K mainGlobals "len" = some none)
  (z5 : nsIn K mainGlobals "str" = some none)
  (z6 : nsIn K mainGlobals "max" = some none)
  (z7 : nsIn K mainGlobals "range" = some none)
  (z8 : nsIn K mainGlobals "ValueError" = some none)
  (z9 : nsIn K mainGlobals "min" = some none)
  {C0 C1 C2 C3 C4 : Addr}
  (xa0 : nsIn K mainGlobals "TalkError" = some (some (.ref C0))) (xg0 : findIn K (.ref C0) "__getattribute__" = some (some (.builtin "BaseException.__getattribute__"))) (xh0 : hasDictIn K C0 = true) (xf0 : findIn K (.ref C0) "__class__" = some (some (.builtin "object.__class__"))) (xm0 : mroIn K C0 (.type "object") = some true)
  (xe0 : excIn K C0 [.type "ValueError", .type "Exception", .type "BaseException", .type "object"] "ValueError.__new__" = true) (xv0 : kitOne K (.ref C0) (.type "ValueError") = some true)
  (xk0_0 : kitOne K (.ref C0) (.ref C0) = some true) (xx0_0 : exmOne K (.ref C0) (.ref C0) = some true)
  (xk0_1 : kitOne K (.ref C0) (.ref C1) = some false)
  (xk0_2 : kitOne K (.ref C0) (.ref C2) = some false)
  (xk0_3 : kitOne K (.ref C0) (.ref C3) = some false)
  (xk0_4 : kitOne K (.ref C0) (.ref C4) = some false)
  (xt0 : findIn K (.ref C0) "__getattr__" = some none) (xb0 : mroIn K C0 (.type "BaseException") = some true)
  (xa1 : nsIn K mainGlobals "NoTable" = some (some (.ref C1))) (xg1 : findIn K (.ref C1) "__getattribute__" = some (some (.builtin "BaseException.__getattribute__"))) (xh1 : hasDictIn K C1 = true) (xf1 : findIn K (.ref C1) "__class__" = some (some (.builtin "object.__class__"))) (xm1 : mroIn K C1 (.type "object") = some true)
  (xe1 : excIn K C1 [.type "ValueError", .type "Exception", .type "BaseException", .type "object"] "ValueError.__new__" = true) (xv1 : kitOne K (.ref C1) (.type "ValueError") = some true)
  (xk1_0 : kitOne K (.ref C1) (.ref C0) = some true) (xx1_0 : exmOne K (.ref C1) (.ref C0) = some true)
  (xk1_1 : kitOne K (.ref C1) (.ref C1) = some true) (xx1_1 : exmOne K (.ref C1) (.ref C1) = some true)
  (xk1_2 : kitOne K (.ref C1) (.ref C2) = some false)
  (xk1_3 : kitOne K (.ref C1) (.ref C3) = some false)
  (xk1_4 : kitOne K (.ref C1) (.ref C4) = some false)
  (xt1 : findIn K (.ref C1) "__getattr__" = some none) (xb1 : mroIn K C1 (.type "BaseException") = some true)
  (xa2 : nsIn K mainGlobals "NoCard" = some (some (.ref C2))) (xg2 : findIn K (.ref C2) "__getattribute__" = some (some (.builtin "BaseException.__getattribute__"))) (xh2 : hasDictIn K C2 = true) (xf2 : findIn K (.ref C2) "__class__" = some (some (.builtin "object.__class__"))) (xm2 : mroIn K C2 (.type "object") = some true)
  (xe2 : excIn K C2 [.type "ValueError", .type "Exception", .type "BaseException", .type "object"] "ValueError.__new__" = true) (xv2 : kitOne K (.ref C2) (.type "ValueError") = some true)
  (xk2_0 : kitOne K (.ref C2) (.ref C0) = some true) (xx2_0 : exmOne K (.ref C2) (.ref C0) = some true)
  (xk2_1 : kitOne K (.ref C2) (.ref C1) = some false)
  (xk2_2 : kitOne K (.ref C2) (.ref C2) = some true) (xx2_2 : exmOne K (.ref C2) (.ref C2) = some true)
  (xk2_3 : kitOne K (.ref C2) (.ref C3) = some false)
  (xk2_4 : kitOne K (.ref C2) (.ref C4) = some false)
  (xt2 : findIn K (.ref C2) "__getattr__" = some none) (xb2 : mroIn K C2 (.type "BaseException") = some true)
  (xa3 : nsIn K mainGlobals "NoPlan" = some (some (.ref C3))) (xg3 : findIn K (.ref C3) "__getattribute__" = some (some (.builtin "BaseException.__getattribute__"))) (xh3 : hasDictIn K C3 = true) (xf3 : findIn K (.ref C3) "__class__" = some (some (.builtin "object.__class__"))) (xm3 : mroIn K C3 (.type "object") = some true)
  (xe3 : excIn K C3 [.type "ValueError", .type "Exception", .type "BaseException", .type "object"] "ValueError.__new__" = true) (xv3 : kitOne K (.ref C3) (.type "ValueError") = some true)
  (xk3_0 : kitOne K (.ref C3) (.ref C0) = some true) (xx3_0 : exmOne K (.ref C3) (.ref C0) = some true)
  (xk3_1 : kitOne K (.ref C3) (.ref C1) = some false)
  (xk3_2 : kitOne K (.ref C3) (.ref C2) = some false)
  (xk3_3 : kitOne K (.ref C3) (.ref C3) = some true) (xx3_3 : exmOne K (.ref C3) (.ref C3) = some true)
  (xk3_4 : kitOne K (.ref C3) (.ref C4) = some false)
  (xt3 : findIn K (.ref C3) "__getattr__" = some none) (xb3 : mroIn K C3 (.type "BaseException") = some true)
  (xa4 : nsIn K mainGlobals "NoText" = some (some (.ref C4))) (xg4 : findIn K (.ref C4) "__getattribute__" = some (some (.builtin "BaseException.__getattribute__"))) (xh4 : hasDictIn K C4 = true) (xf4 : findIn K (.ref C4) "__class__" = some (some (.builtin "object.__class__"))) (xm4 : mroIn K C4 (.type "object") = some true)
  (xe4 : excIn K C4 [.type "ValueError", .type "Exception", .type "BaseException", .type "object"] "ValueError.__new__" = true) (xv4 : kitOne K (.ref C4) (.type "ValueError") = some true)
  (xk4_0 : kitOne K (.ref C4) (.ref C0) = some true) (xx4_0 : exmOne K (.ref C4) (.ref C0) = some true)
  (xk4_1 : kitOne K (.ref C4) (.ref C1) = some false)
  (xk4_2 : kitOne K (.ref C4) (.ref C2) = some false)
  (xk4_3 : kitOne K (.ref C4) (.ref C3) = some false)
  (xk4_4 : kitOne K (.ref C4) (.ref C4) = some true) (xx4_4 : exmOne K (.ref C4) (.ref C4) = some true)
  (xt4 : findIn K (.ref C4) "__getattr__" = some none) (xb4 : mroIn K C4 (.type "BaseException") = some true)
  (xs0 : specialIn K (.builtin "object.__class__") "__get__" = some (some (.builtin "getset_descriptor.__get__"))) (xs1 : takesIn K (.builtin "object.__class__") = some true)
  {tg0 : _} (g0 : nsIn K mainGlobals "GREATEST_WORD" = some (some (.int 9 tg0)))
  {tg1 : _} (g1 : nsIn K mainGlobals "MOST_ASKS_DEEP" = some (some (.int 12 tg1)))
  {tg2 : _} (g2 : nsIn K mainGlobals "MOST_ASKS" = some (some (.int 300 tg2)))
  {tg3 : _} (g3 : nsIn K mainGlobals "ALL_CARDS" = some (some (.int 255 tg3)))
  : ∃ fd : FuncData, (∀ (s : Shared) (v : Value), BindsTo s fd ⟨[v], []⟩ [("_law_script", v)]) /\ ∀ base : Heap, K.In base -> base.Ns mainGlobals mg -> FnOk l.prog w K mg base CX0 60 fa fd ["_law_script"] (spS K) := by
 have e := hfa.symm.trans (mg_of X Ns a22)
 cases e
 have S0 := q0q X Ns ok0 a0 l0 c0 k0 λ _ _ _ _ _ _ us hl => by obtain ⟨_, _, _, rfl⟩ := ln3 hl; rfl
 have S1 := q0q X Ns ok1 a1 l1 c1 k1 λ _ _ _ _ _ _ us hl => by obtain ⟨_, rfl⟩ := ln1 hl; rfl
 have S2 := q0q X Ns ok2 a2 l2 c2 k2 λ _ _ _ _ _ _ us hl => by obtain ⟨_, _, rfl⟩ := ln2 hl; rfl
 have S3 := q0q X Ns ok3 a3 l3 c3 k3 λ _ _ _ _ _ _ us hl => by obtain ⟨_, rfl⟩ := ln1 hl; rfl
 have S4 := q0q X Ns ok4 a4 l4 c4 k4 λ _ _ _ _ _ _ us hl => by obtain ⟨_, rfl⟩ := ln1 hl; rfl
 have S5 := q0q X Ns ok5 a5 l5 c5 k5 λ _ _ _ _ _ _ us hl => by obtain ⟨_, _, rfl⟩ := ln2 hl; rfl
 have S6 := q0q X Ns ok6 a6 l6 c6 k6 λ _ _ _ _ _ _ us hl => by obtain ⟨_, _, rfl⟩ := ln2 hl; rfl
 have S7 := q0q X Ns ok7 a7 l7 c7 k7 λ _ _ _ _ _ _ us hl => by obtain ⟨_, rfl⟩ := ln1 hl; rfl
 have S8 := q0q X Ns ok8 a8 l8 c8 k8 λ _ _ _ _ _ _ us hl => by obtain ⟨_, rfl⟩ := ln1 hl; rfl
 have S9 := q0q X Ns ok9 a9 l9 c9 k9 λ _ _ _ _ _ _ us hl => by obtain ⟨_, rfl⟩ := ln1 hl; rfl
 have S10 := q0q X Ns ok10 a10 l10 c10 k10 λ _ _ _ _ _ _ us hl => by obtain ⟨_, _, rfl⟩ := ln2 hl; rfl
 have S11 := q0q X Ns ok11 a11 l11 c11 k11 λ _ _ _ _ _ _ us hl => by obtain ⟨_, _, rfl⟩ := ln2 hl; rfl
 have S12 := q0q X Ns ok12 a12 l12 c12 k12 λ _ _ _ _ _ _ us hl => by obtain ⟨_, _, _, _, rfl⟩ := ln4 hl; rfl
 have S13 := q0q X Ns ok13 a13 l13 c13 k13 λ _ _ _ _ _ _ us hl => by obtain ⟨_, _, rfl⟩ := ln2 hl; rfl
 have S14 := q0q X Ns ok14 a14 l14 c14 k14 λ _ _ _ _ _ _ us hl => by obtain ⟨_, _, rfl⟩ := ln2 hl; rfl
 have S15 := q0q X Ns ok15 a15 l15 c15 k15 λ _ _ _ _ _ _ us hl => by obtain ⟨_, _, _, rfl⟩ := ln3 hl; rfl
 have S16 := q0q X Ns ok16 a16 l16 c16 k16 λ _ _ _ _ _ _ us hl => by obtain ⟨_, rfl⟩ := ln1 hl; rfl
 have S17 := q0q X Ns ok17 a17 l17 c17 k17 λ _ _ _ _ _ _ us hl => by obtain ⟨_, rfl⟩ := ln1 hl; rfl
 have S18 := q0q X Ns ok18 a18 l18 c18 k18 λ _ _ _ _ _ _ us hl => by obtain ⟨_, _, rfl⟩ := ln2 hl; rfl
 have S19 := q0q X Ns ok19 a19 l19 c19 k19 λ _ _ _ _ _ _ us hl => by obtain ⟨_, _, rfl⟩ := ln2 hl; rfl
 have S20 := q0q X Ns ok20 a20 l20 c20 k20 λ _ _ _ _ _ _ us hl => by obtain ⟨_, rfl⟩ := ln1 hl; rfl
 have S21 := q0q X Ns ok21 a21 l21 c21 k21 λ _ _ _ _ _ _ us hl => by obtain ⟨_, rfl⟩ := ln1 hl; rfl
 have S22 := q0q X Ns ok22 a22 l22 c22 k22 λ _ _ _ _ _ _ us hl => by obtain ⟨_, rfl⟩ := ln1 hl; rfl
 have SH := q7f X Ns okh ah lh ch kh λ _ _ _ _ _ _ us hl => by obtain ⟨_, _, rfl⟩ := ln2 hl; rfl
 refine ⟨_, λ s v => .of_eq rfl, λ base _ _ => q9P (T := T) (G := G) (fu := 100) rfl (q0M S0 (q0M S1 (q0M S2 (q0M S3 (q0M S4 (q0M S5 (q0M S6 (q0M S7 (q0M S8 (q0M S9 (q0M S10 (q0M S11 (q0M S12 (q0M S13 (q0M S14 (q0M S15 (q0M S16 (q0M S17 (q0M S18 (q0M S19 (q0M S20 (q0M S21 (q0M S22 z3C))))))))))))))))))))))) ?_ ?_ ?_ ?_ z0N (λ _ => ⟨by decide, _, _, _, SH⟩) (i := 22) rfl rfl S22 z1t⟩
 ·exact fmc (mg_none_of X Ns z0) (fmc (mg_none_of X Ns z1) (fmc (mg_none_of X Ns z2) (fmc (mg_none_of X Ns z3) (fmc (mg_none_of X Ns z4) (fmc (mg_none_of X Ns z5) (fmc (mg_none_of X Ns z6) (fmc (mg_none_of X Ns z7) (fmc (mg_none_of X Ns z8) (fmc (mg_none_of X Ns z9) (by intro x hx; cases hx))))))))))
 ·refine ⟨q3f ⟨_, mg_of X Ns xa0, ⟨xg0, xt0, xb0, xh0, xf0, xs0, xs1, xm0⟩, ⟨_, _, _, _, PySem.F.excBase_ValueError, xe0⟩, (q0u (mg_of X Ns xa0) ⟨xk0_0, λ _ => xx0_0⟩ (q0u (mg_of X Ns xa1) ⟨xk0_1, λ z => nomatch z⟩ (q0u (mg_of X Ns xa2) ⟨xk0_2, λ z => nomatch z⟩ (q0u (mg_of X Ns xa3) ⟨xk0_3, λ z => nomatch z⟩ (q0u (mg_of X Ns xa4) ⟨xk0_4, λ z => nomatch z⟩ q3V))))), xv0⟩ (q3f ⟨_, mg_of X Ns xa1, ⟨xg1, xt1, xb1, xh1, xf1, xs0, xs1, xm1⟩, ⟨_, _, _, _, PySem.F.excBase_ValueError, xe1⟩, (q0u (mg_of X Ns xa0) ⟨xk1_0, λ _ => xx1_0⟩ (q0u (mg_of X Ns xa1) ⟨xk1_1, λ _ => xx1_1⟩ (q0u (mg_of X Ns xa2) ⟨xk1_2, λ z => nomatch z⟩ (q0u (mg_of X Ns xa3) ⟨xk1_3, λ z => nomatch z⟩ (q0u (mg_of X Ns xa4) ⟨xk1_4, λ z => nomatch z⟩ q3V))))), xv1⟩ (q3f ⟨_, mg_of X Ns xa2, ⟨xg2, xt2, xb2, xh2, xf2, xs0, xs1, xm2⟩, ⟨_, _, _, _, PySem.F.excBase_ValueError, xe2⟩, (q0u (mg_of X Ns xa0) ⟨xk2_0, λ _ => xx2_0⟩ (q0u (mg_of X Ns xa1) ⟨xk2_1, λ z => nomatch z⟩ (q0u (mg_of X Ns xa2) ⟨xk2_2, λ _ => xx2_2⟩ (q0u (mg_of X Ns xa3) ⟨xk2_3, λ z => nomatch z⟩ (q0u (mg_of X Ns xa4) ⟨xk2_4, λ z => nomatch z⟩ q3V))))), xv2⟩ (q3f ⟨_, mg_of X Ns xa3, ⟨xg3, xt3, xb3, xh3, xf3, xs0, xs1, xm3⟩, ⟨_, _, _, _, PySem.F.excBase_ValueError, xe3⟩, (q0u (mg_of X Ns xa0) ⟨xk3_0, λ _ => xx3_0⟩ (q0u (mg_of X Ns xa1) ⟨xk3_1, λ z => nomatch z⟩ (q0u (mg_of X Ns xa2) ⟨xk3_2, λ z => nomatch z⟩ (q0u (mg_of X Ns xa3) ⟨xk3_3, λ _ => xx3_3⟩ (q0u (mg_of X Ns xa4) ⟨xk3_4, λ z => nomatch z⟩ q3V))))), xv3⟩ (q3f ⟨_, mg_of X Ns xa4, ⟨xg4, xt4, xb4, xh4, xf4, xs0, xs1, xm4⟩, ⟨_, _, _, _, PySem.F.excBase_ValueError, xe4⟩, (q0u (mg_of X Ns xa0) ⟨xk4_0, λ _ => xx4_0⟩ (q0u (mg_of X Ns xa1) ⟨xk4_1, λ z => nomatch z⟩ (q0u (mg_of X Ns xa2) ⟨xk4_2, λ z => nomatch z⟩ (q0u (mg_of X Ns xa3) ⟨xk4_3, λ z => nomatch z⟩ (q0u (mg_of X Ns xa4) ⟨xk4_4, λ _ => xx4_4⟩ q3V))))), xv4⟩ (z1x))))), all_cons ⟨_, mg_of X Ns xa0⟩ (all_cons ⟨_, mg_of X Ns xa1⟩ (all_cons ⟨_, mg_of X Ns xa2⟩ (all_cons ⟨_, mg_of X Ns xa3⟩ (all_cons ⟨_, mg_of X Ns xa4⟩ (z1n)))))⟩
 ·intro x d h
  exact q3J ⟨_, .int _, mg_of X Ns g0, ⟨_, rfl⟩, λ H => q0I.mpr rfl⟩ (q3J ⟨_, .int _, mg_of X Ns g1, ⟨_, rfl⟩, λ H => q0I.mpr rfl⟩ (q3J ⟨_, .int _, mg_of X Ns g2, ⟨_, rfl⟩, λ H => q0I.mpr rfl⟩ (q3J ⟨_, .int _, mg_of X Ns g3, ⟨_, rfl⟩, λ H => q0I.mpr rfl⟩ (z0E)))) x d h
 ·intro x kvs h
  exact z1s x kvs h
end k11
open PySem PySem.W PyProof.Rows
set_option maxRecDepth 100000 in
set_option maxHeartbeats 0 in
theorem PySem.Challenge.cw_talkleast_k11_plans_made_holds : PySem.Challenge.rw_talkleast_k11_plans_made.Holds := by
 w_on; o_law; k_head; (case hw => w_witness2)
 k_fill
 refine L2.walkE (l := PySem.Challenge.rw_talkleast_k11_plans_made) (k := 60) (p := "_law_script") rfl rfl ⟨rfl, by decide, by decide⟩ (λ w h Y => PySem.W.kIn_of Y) ?F
 case F =>
  intro w mg fa h KX G hmg
  refine' k11.all_mk KX G hmg ?a0 ?l0 ?c0 ?k0 ?a1 ?l1 ?c1 ?k1 ?a2 ?l2 ?c2 ?k2 ?a3 ?l3 ?c3 ?k3 ?a4 ?l4 ?c4 ?k4 ?a5 ?l5 ?c5 ?k5 ?a6 ?l6 ?c6 ?k6 ?a7 ?l7 ?c7 ?k7 ?a8 ?l8 ?c8 ?k8 ?a9 ?l9 ?c9 ?k9 ?a10 ?l10 ?c10 ?k10 ?a11 ?l11 ?c11 ?k11 ?a12 ?l12 ?c12 ?k12 ?a13 ?l13 ?c13 ?k13 ?a14 ?l14 ?c14 ?k14 ?a15 ?l15 ?c15 ?k15 ?a16 ?l16 ?c16 ?k16 ?a17 ?l17 ?c17 ?k17 ?a18 ?l18 ?c18 ?k18 ?a19 ?l19 ?c19 ?k19 ?a20 ?l20 ?c20 ?k20 ?a21 ?l21 ?c21 ?k21 ?a22 ?l22 ?c22 ?k22 ?ah ?lh ?ch ?kh ?z0 ?z1 ?z2 ?z3 ?z4 ?z5 ?z6 ?z7 ?z8 ?z9 ?xa0 ?xg0 ?xh0 ?xf0 ?xm0 ?xe0 ?xv0 ?xk0_0 ?xx0_0 ?xk0_1 ?xk0_2 ?xk0_3 ?xk0_4 ?xt0 ?xb0 ?xa1 ?xg1 ?xh1 ?xf1 ?xm1 ?xe1 ?xv1 ?xk1_0 ?xx1_0 ?xk1_1 ?xx1_1 ?xk1_2 ?xk1_3 ?xk1_4 ?xt1 ?xb1 ?xa2 ?xg2 ?xh2 ?xf2 ?xm2 ?xe2 ?xv2 ?xk2_0 ?xx2_0 ?xk2_1 ?xk2_2 ?xx2_2 ?xk2_3 ?xk2_4 ?xt2 ?xb2 ?xa3 ?xg3 ?xh3 ?xf3 ?xm3 ?xe3 ?xv3 ?xk3_0 ?xx3_0 ?xk3_1 ?xk3_2 ?xk3_3 ?xx3_3 ?xk3_4 ?xt3 ?xb3 ?xa4 ?xg4 ?xh4 ?xf4 ?xm4 ?xe4 ?xv4 ?xk4_0 ?xx4_0 ?xk4_1 ?xk4_2 ?xk4_3 ?xk4_4 ?xx4_4 ?xt4 ?xb4 ?xs0 ?xs1 ?ycon0 ?ycon1 ?ycon2 ?ycon3
  (case a0 => k_is); (case l0 => k_is); (case c0 => k_is); (case k0 => k_is)
  (case a1 => k_is); (case l1 => k_is); (case c1 => k_is); (case k1 => k_is)
  (case a2 => k_is); (case l2 => k_is); (case c2 => k_is); (case k2 => k_is)
  (case a3 => k_is); (case l3 => k_is); (case c3 => k_is); (case k3 => k_is)
  (case a4 => k_is); (case l4 => k_is); (case c4 => k_is); (case k4 => k_is)
  (case a5 => k_is); (case l5 => k_is); (case c5 => k_is); (case k5 => k_is)
  (case a6 => k_is); (case l6 => k_is); (case c6 => k_is); (case k6 => k_is)
  (case a7 => k_is); (case l7 => k_is); (case c7 => k_is); (case k7 => k_is)
  (case a8 => k_is); (case l8 => k_is); (case c8 => k_is); (case k8 => k_is)
  (case a9 => k_is); (case l9 => k_is); (case c9 => k_is); (case k9 => k_is)
  (case a10 => k_is); (case l10 => k_is); (case c10 => k_is); (case k10 => k_is)
  (case a11 => k_is); (case l11 => k_is); (case c11 => k_is); (case k11 => k_is)
  (case a12 => k_is); (case l12 => k_is); (case c12 => k_is); (case k12 => k_is)
  (case a13 => k_is); (case l13 => k_is); (case c13 => k_is); (case k13 => k_is)
  (case a14 => k_is); (case l14 => k_is); (case c14 => k_is); (case k14 => k_is)
  (case a15 => k_is); (case l15 => k_is); (case c15 => k_is); (case k15 => k_is)
  (case a16 => k_is); (case l16 => k_is); (case c16 => k_is); (case k16 => k_is)
  (case a17 => k_is); (case l17 => k_is); (case c17 => k_is); (case k17 => k_is)
  (case a18 => k_is); (case l18 => k_is); (case c18 => k_is); (case k18 => k_is)
  (case a19 => k_is); (case l19 => k_is); (case c19 => k_is); (case k19 => k_is)
  (case a20 => k_is); (case l20 => k_is); (case c20 => k_is); (case k20 => k_is)
  (case a21 => k_is); (case l21 => k_is); (case c21 => k_is); (case k21 => k_is)
  (case a22 => k_is); (case l22 => k_is); (case c22 => k_is); (case k22 => k_is)
  (case ah => k_is); (case lh => k_is); (case ch => k_is); (case kh => k_is)
  (case z0 => k_is)
  (case z1 => k_is)
  (case z2 => k_is)
  (case z3 => k_is)
  (case z4 => k_is)
  (case z5 => k_is)
  (case z6 => k_is)
  (case z7 => k_is)
  (case z8 => k_is)
  (case z9 => k_is)
  (case xa0 => k_is); (case xg0 => k_is); (case xh0 => k_is); (case xf0 => k_is); (case xm0 => k_is); (case xt0 => k_is); (case xb0 => k_is)
  (case xa1 => k_is); (case xg1 => k_is); (case xh1 => k_is); (case xf1 => k_is); (case xm1 => k_is); (case xt1 => k_is); (case xb1 => k_is)
  (case xa2 => k_is); (case xg2 => k_is); (case xh2 => k_is); (case xf2 => k_is); (case xm2 => k_is); (case xt2 => k_is); (case xb2 => k_is)
  (case xa3 => k_is); (case xg3 => k_is); (case xh3 => k_is); (case xf3 => k_is); (case xm3 => k_is); (case xt3 => k_is); (case xb3 => k_is)
  (case xa4 => k_is); (case xg4 => k_is); (case xh4 => k_is); (case xf4 => k_is); (case xm4 => k_is); (case xt4 => k_is); (case xb4 => k_is)
  (case xe0 => kernel_rfl); (case xv0 => kernel_rfl)
  (case xk0_0 => kernel_rfl); (case xx0_0 => kernel_rfl)
  (case xk0_1 => kernel_rfl)
  (case xk0_2 => kernel_rfl)
  (case xk0_3 => kernel_rfl)
  (case xk0_4 => kernel_rfl)
  (case xe1 => kernel_rfl); (case xv1 => kernel_rfl)
  (case xk1_0 => kernel_rfl); (case xx1_0 => kernel_rfl)
  (case xk1_1 => kernel_rfl); (case xx1_1 => kernel_rfl)
  (case xk1_2 => kernel_rfl)
  (case xk1_3 => kernel_rfl)
  (case xk1_4 => kernel_rfl)
  (case xe2 => kernel_rfl); (case xv2 => kernel_rfl)
  (case xk2_0 => kernel_rfl); (case xx2_0 => kernel_rfl)
  (case xk2_1 => kernel_rfl)
  (case xk2_2 => kernel_rfl); (case xx2_2 => kernel_rfl)
  (case xk2_3 => kernel_rfl)
  (case xk2_4 => kernel_rfl)
  (case xe3 => kernel_rfl); (case xv3 => kernel_rfl)
  (case xk3_0 => kernel_rfl); (case xx3_0 => kernel_rfl)
  (case xk3_1 => kernel_rfl)
  (case xk3_2 => kernel_rfl)
  (case xk3_3 => kernel_rfl); (case xx3_3 => kernel_rfl)
  (case xk3_4 => kernel_rfl)
  (case xe4 => kernel_rfl); (case xv4 => kernel_rfl)
  (case xk4_0 => kernel_rfl); (case xx4_0 => kernel_rfl)
  (case xk4_1 => kernel_rfl)
  (case xk4_2 => kernel_rfl)
  (case xk4_3 => kernel_rfl)
  (case xk4_4 => kernel_rfl); (case xx4_4 => kernel_rfl)
  (case xs0 => k_is); (case xs1 => k_is)
  (case ycon0 => k_is)
  (case ycon1 => k_is)
  (case ycon2 => k_is)
  (case ycon3 => k_is)
end

import PyProof.Rows.All
import Wide.All
import OpenK.AllK
import Wide.FinOn
import Lean
import PyProof.EqAt
import PyProof.EqKinds
import PyProof.TupleCall
import PyProof.ExcAttrAll.ValueError
import PyProof.ZipIter
import PyProof.TupleIter
import PyProof.P3In
import PyProof.Rows.SeqMore2
import PyProof.FactsAll.tuple_3
import PyProof.FactsAll.list_3
import PyProof.Rows.Range3
import KE.KRevIter
import PyProof.Rows.FactsT2
import PySem.Builtin.Int.W1All
import PyProof.SetScanFacts
import PyProof.SetKind
import PyProof.DictKinds
import PyProof.DictStraight
import PyProof.Rows.SetFrom
import PyProof.CollectWalk
import PyProof.Seq
import PyProof.DictIter
import PyProof.Rows.Tup
import PyProof.FactsAll.set_1
import PyProof.FactsAll.set_2
import PyProof.Rows.SortWalk
import PyProof.ConsumeWalk
import PyProof.Rows.SumAny
import PySem.Syntax
import PySem.Eval
import PyProof.DictTable
import PyProof.ListRange
import PyProof.EnumMake
import PyProof.DictItems
import PyProof.DictItemsLoops
import PyProof.MeetsDict
import KE.KPairComp
import PySem.Challenge.RW_talkleast_k41_determinants
set_option Elab.async false
set_option linter.all false
set_option bootstrap.genMatcherCode false
set_option genSizeOfSpec false
set_option compiler.extract_closed false
set_option maxRecDepth 100000
set_option maxHeartbeats 4000000
section
namespace L2
open PySem PySem.Spec PyProof.Rows
noncomputable abbrev Key := Sum Int Str
noncomputable def q6J : Key -> Value -> Bool
 | .inl k, v => Value.isInt k v
 | .inr x, v => Value.isStrOf x v
noncomputable def keyH (w : World) : Key -> Int
 | .inl k => hashInt k
 | .inr x => hashStr w x
theorem q0G : ∀ {k : Key} {v : Value}, q6J k v = true -> (∃ i t, k = Sum.inl i /\ v = Value.int i t) \/ (∃ x t, k = Sum.inr x /\ v = Value.str x t)
 | .inl i, v, h => by
  obtain ⟨t, e⟩ := Value.isInt_shape (k := i) (v := v) h
  exact .inl ⟨i, t, rfl, e⟩
 | .inr x, v, h => by
  obtain ⟨t, e⟩ := Value.isStrOf_shape (x := x) (v := v) h
  exact .inr ⟨x, t, rfl, e⟩
theorem q8Q (i : Int) (t : Tok) : q6J (.inl i) (.int i t) = true := by simp [q6J, Value.isInt]
theorem q7X (x : Str) (t : Tok) : q6J (.inr x) (.str x t) = true := by simp [q6J, Value.isStrOf]
theorem z4r (a b : Int) : decide ((Sum.inl a : Key) = Sum.inl b) = (a == b) := by
 by_cases e : a = b
 ·subst e; simp
 ·have h : ¬ (Sum.inl a : Key) = Sum.inl b := λ q => e (Sum.inl.inj q)
  rw [decide_eq_false h]
  exact (beq_eq_false_iff_ne.mpr e).symm
theorem z4a (a b : Str) : decide ((Sum.inr a : Key) = Sum.inr b) = decide (a = b) := by
 by_cases e : a = b
 ·subst e; simp
 ·have h : ¬ (Sum.inr a : Key) = Sum.inr b := λ q => e (Sum.inr.inj q)
  rw [decide_eq_false h, decide_eq_false e]
theorem z4E (a : Int) (b : Str) : decide ((Sum.inl a : Key) = Sum.inr b) = false := decide_eq_false (λ q => nomatch q)
theorem z3S (a : Str) (b : Int) : decide ((Sum.inr a : Key) = Sum.inl b) = false := decide_eq_false (λ q => nomatch q)
noncomputable def q0H (prog : Program) (w : World) : PySem.KeyKind prog w Key where
 is := q6J
 hash := keyH w
 inj := λ v a b ha hb => by
  rcases q0G ha with ⟨i, t, rfl, rfl⟩ | ⟨x, t, rfl, rfl⟩
  ·rcases q0G hb with ⟨j, u, rfl, e⟩ | ⟨y, u, rfl, e⟩
   ·injection e with e1 _; rw [e1]
   ·exact nomatch e
  ·rcases q0G hb with ⟨j, u, rfl, e⟩ | ⟨y, u, rfl, e⟩
   ·exact nomatch e
   ·injection e with e1 _; rw [e1]
 byValue := λ k v h => by
  rcases q0G h with ⟨i, t, rfl, rfl⟩ | ⟨x, t, rfl, rfl⟩ <;> rfl
 pyHash := λ hv h => by
  rcases q0G hv with ⟨i, t, rfl, rfl⟩ | ⟨x, t, rfl, rfl⟩
  ·exact wpAny_pyHash_int h
  ·exact wpAny_pyHash_str h
 eqBool := λ hu hv h => by
  rcases q0G hu with ⟨i, t, rfl, rfl⟩ | ⟨x, t, rfl, rfl⟩
  ·rcases q0G hv with ⟨j, u, rfl, rfl⟩ | ⟨y, u, rfl, rfl⟩
   ·rw [z4r] at h; exact wpAny_eqBool_int h
   ·rw [z4E] at h; exact SeqAt.EqAt.int_str i t y u _ _ _ _ h
  ·rcases q0G hv with ⟨j, u, rfl, rfl⟩ | ⟨y, u, rfl, rfl⟩
   ·rw [z3S] at h; exact SeqAt.EqAt.str_int x t j u _ _ _ _ h
   ·rw [z4a] at h; exact wpAny_eqBool_str h
 «strs» := λ k x t v h => by
  rcases q0G h with ⟨i, u, rfl, e⟩ | ⟨y, u, rfl, e⟩
  ·exact nomatch e
  ·injection e with e1 _
   subst e1
   cases v <;> rfl
theorem q5t (prog : Program) (w : World) (i : Int) (t : Tok) : (q0H prog w).is (.inl i) (.int i t) = true := q8Q i t
theorem q5S (prog : Program) (w : World) (x : Str) (t : Tok) : (q0H prog w).is (.inr x) (.str x t) = true := q7X x t
end L2
namespace L2
open PySem PySem.Spec PyProof.Rows
inductive V where
 | non | bl (b : Bool) | int (i : Int) | str (x : Str) | byt (b : Array UInt8) | flt (b : UInt64) | ref (a : Addr) | ty (n : String)
 deriving DecidableEq
noncomputable def RelV : V -> Value -> Prop
 | .non, u => u = Value.none
 | .bl b, u => u = Value.bool b
 | .int i, u => ∃ t, u = Value.int i t
 | .str x, u => ∃ t, u = Value.str x t
 | .byt b, u => ∃ t, u = Value.bytes b t
 | .flt b, u => ∃ t, u = Value.float b t
 | .ref a, u => u = Value.ref a
 | .ty n, u => u = Value.type n
noncomputable abbrev Vals : List V -> List Value -> Prop := Paired RelV
theorem Vals.length {xs : List V} {us : List Value} (r : Vals xs us) : xs.length = us.length := Paired.length r
theorem Vals.get : ∀ {xs : List V} {us : List Value} {i : Nat} {x : V}, Vals xs us -> xs[i]? = some x -> ∃ u, us[i]? = some u /\ RelV x u
 | _, _, _, _, .nil, e => by simp at e
 | _, _, 0, _, .cons r _, e => by simp at e; subst e; exact ⟨_, rfl, r⟩
 | _, _, i + 1, x, .cons _ t, e => by
  obtain ⟨u, h1, h2⟩ := Vals.get (i := i) (x := x) t (by simpa using e)
  exact ⟨u, by simpa using h1, h2⟩
theorem Vals.set {x : V} {u : Value} (r : RelV x u) : ∀ {xs : List V} {us : List Value} (i : Nat), Vals xs us -> Vals (xs.set i x) (us.set i u)
 | _, _, _, .nil => .nil
 | _, _, 0, .cons _ t => .cons r t
 | _, _, i + 1, .cons q t => .cons q (Vals.set r i t)
theorem Vals.append : ∀ {xs ys : List V} {us ws : List Value}, Vals xs us -> Vals ys ws -> Vals (xs ++ ys) (us ++ ws)
 | _, _, _, _, .nil, s => s
 | _, _, _, _, .cons r t, s => .cons r (Vals.append t s)
theorem Vals.take : ∀ {xs : List V} {us : List Value} (n : Nat), Vals xs us -> Vals (xs.take n) (us.take n)
 | _, _, 0, _ => .nil
 | _, _, _ + 1, .nil => .nil
 | _, _, n + 1, .cons r t => .cons r (Vals.take n t)
theorem Vals.drop : ∀ {xs : List V} {us : List Value} (n : Nat), Vals xs us -> Vals (xs.drop n) (us.drop n)
 | _, _, 0, r => r
 | _, _, _ + 1, .nil => .nil
 | _, _, n + 1, .cons _ t => Vals.drop n t
noncomputable def RelO : Option V -> Option Value -> Prop
 | some v, some u => RelV v u
 | none, none => True
 | _, _ => False
noncomputable def KV {κ : Type} : List (κ × V) -> List (κ × Value) -> Prop := Paired λ (p : κ × V) (q : κ × Value) => p.1 = q.1 /\ RelV p.2 q.2
noncomputable def kV : Key -> V
 | .inl i => .int i
 | .inr x => .str x
inductive HO where
 | lst (xs : List V)
 | tup (xs : List V)
 | dK (kvs : List (Key × V)) | dT (kvs : List (List Key × V))
 | set (S : Int -> Bool) (n : Nat)
 | ins (C dx : Addr) (fs : List (Str × V))
 | own (x : Addr)
 | xd (fs : List (Str × V))
 | met (f x : Addr)
 | rng (lo hi : Int)
 | frz (o : Obj) (u : HO)
 | tbl (ps : Array Value)
 | ext (φ : Heap -> Prop)
noncomputable abbrev Hp := Addr -> Option HO
noncomputable def upd (H : Hp) (a : Addr) (o : HO) : Hp := λ b => if b = a then some o else H b
theorem q0m {H : Hp} {a : Addr} {o : HO} : upd H a o a = some o := by unfold upd; rw [if_pos rfl]
theorem q0j {H : Hp} {a b : Addr} {o : HO} (h : b ≠ a) : upd H a o b = H b := by unfold upd; rw [if_neg h]
theorem z6v {H : Hp} {a b : Addr} {o u : HO} (h : H a = some o) (h' : H b = some u) (d : o ≠ u) : a ≠ b := by
 intro e; subst e; rw [h] at h'; exact d (Option.some.inj h')
theorem q0o {H : Hp} {a b : Addr} {o : HO} (h : H a = some o) (h' : H b = none) : a ≠ b := by
 intro e; subst e; rw [h] at h'; cases h'
noncomputable def q2Z (h : Heap) (a : Addr) (items : Array Value) : Prop := ∃ o, h.get? a = some o /\ (o.cls = .type "tuple" /\ o.dict = none) /\ ∃ n, o.data = .seq items n
theorem q2Z.tup {h : Heap} {a items} (x : q2Z h a items) : IsTup h a items := let ⟨o, ho, hc, r⟩ := x; ⟨o, ho, hc.1, r⟩
theorem q2Z.lt {h : Heap} {a items} (x : q2Z h a items) : a < h.objs.size := let ⟨_, ho, _⟩ := x; Heap.lt_size ho
theorem q2Z.new (h : Heap) (items : Array Value) : q2Z (h.push { cls := .type "tuple", data := .seq items }) h.objs.size items := ⟨_, Heap.get?_push_size _ rfl, ⟨rfl, rfl⟩, _, rfl⟩
section
variable (P : Program) (w : World)
noncomputable def q0Y (H : Hp) (h : Heap) (a : Addr) : HO -> Prop
 | .lst xs => xs.length <= sizeLine /\ ∃ (its : List Value) (n : Nat), Vals xs its /\ h.get? a = some { cls := .type "list", data := .seq its.toArray n }
 | .tup xs => xs.length <= sizeLine /\ ∃ its : List Value, Vals xs its /\ q2Z h a its.toArray
 | .dK kvs => kvs.length <= sizeLine /\ (a == sysModules) = false /\ ∃ vs, KV kvs vs /\ h.DictOf (q0H P w) a vs
 | .dT kvs => kvs.length <= sizeLine /\ (a == sysModules) = false /\ ∃ xs : List (List Key × Addr × Value),
   Paired (λ (p : List Key × V) (q : List Key × Addr × Value) => p.1 = q.1 /\ H q.2.1 = some (.tup (p.1.map kV)) /\ RelV p.2 q.2.2) kvs xs /\
   ∃ o es ep, h.get? a = some o /\ o.ExactDict /\ o.data = .dict es ep /\ es.toList = xs.map (entryOfKey (tupleKind (q0H P w))) /\ (xs.map (·.1)).Nodup
 | .set S n => h.SetOf (intKind P w) a S n
 | .ins C dx fs => H dx = some (.own a) /\ fs.length <= 1000 /\ dx ≠ a /\ h.get? a = some (PySem.W.instObj C dx) /\
   ∃ mA, h.Ns1 dx mA /\ (∀ f, RelO (fs.lookup f) (mA f)) /\ PySem.Within mA (fs.map (·.1))
 | .own _ => ∃ o, h.get? a = some o
 | .xd fs => ∃ mA, h.Ns1 a mA /\ ∀ f, RelO (fs.lookup f) (mA f)
 | .rng lo hi => ∃ t u v, h.get? a = some { cls := .type "range", data := .fields #[.int lo t, .int hi u, .int 1 v] }
 | .frz o u => h.get? a = some o /\ q0Y H h a u
 | .tbl ps => h.get? a = some { cls := .none, data := .fields ps }
 | .met f x => h.get? a = some (PySem.W.methodObj (.ref f) (.ref x))
 | .ext φ => φ h /\ (∃ o, h.get? a = some o) /\ ∀ h1 h2 : Heap, φ h1 -> (∀ o, h1.get? a = some o -> h2.get? a = some o) -> φ h2
noncomputable def HOk (H : Hp) (h : Heap) : Prop := ∀ a o, H a = some o -> q0Y P w H h a o
end
section
variable {P : Program} {w : World} {H H' : Hp} {h h' : Heap} {a : Addr} {o : HO}
theorem q0Y.lt (x : q0Y P w H h a o) : a < h.objs.size := by
 cases o with
 | lst xs => obtain ⟨_, _, _, _, e⟩ := x; exact Heap.lt_size e
 | tup xs => obtain ⟨_, _, _, p⟩ := x; exact p.lt
 | dK kvs => obtain ⟨_, _, _, _, o, _, _, e, _⟩ := x; exact Heap.lt_size e
 | dT kvs => obtain ⟨_, _, _, _, o, _, _, e, _⟩ := x; exact Heap.lt_size e
 | set S n => obtain ⟨o, _, _, _, e, _⟩ := x; exact Heap.lt_size e
 | ins C dx fs => obtain ⟨_, _, _, e, _⟩ := x; exact Heap.lt_size e
 | own y => obtain ⟨_, e⟩ := x; exact Heap.lt_size e
 | xd fs => obtain ⟨_, ⟨_, _, _, e, _⟩, _⟩ := x; exact Heap.lt_size e
 | rng lo hi => obtain ⟨_, _, _, e⟩ := x; exact Heap.lt_size e
 | frz ob u => obtain ⟨e, _⟩ := x; exact Heap.lt_size e
 | tbl ps => exact Heap.lt_size (show h.get? a = some _ from x)
 | met f y => exact Heap.lt_size (show h.get? a = some _ from x)
 | ext φ => obtain ⟨_, ⟨_, e⟩, _⟩ := x; exact Heap.lt_size e
theorem Paired.mapP {α β : Type} {F G : α -> β -> Prop} : ∀ {l₁ : List α} {l₂ : List β}, Paired F l₁ l₂ -> (∀ a b, F a b -> G a b) -> Paired G l₁ l₂
 | _, _, .nil, _ => .nil
 | _, _, .cons r t, f => .cons (f _ _ r) (Paired.mapP t f)
theorem q0Y.stay (x : q0Y P w H h a o) (k : ∀ b u, (b = a \/ H b = some (.own a)) -> h.get? b = some u -> h'.get? b = some u)
  (ho : ∀ b, H b = some (.own a) -> H' b = some (.own a)) (ht : ∀ b xs, H b = some (.tup xs) -> H' b = some (.tup xs)) : q0Y P w H' h' a o := by
 induction o with
 | lst xs => obtain ⟨z, its, n, r, e⟩ := x; exact ⟨z, its, n, r, k _ _ (.inl rfl) e⟩
 | tup xs => obtain ⟨z, its, r, ob, e, c⟩ := x; exact ⟨z, its, r, ob, k _ _ (.inl rfl) e, c⟩
 | dK kvs => obtain ⟨z, y, vs, r, ob, es, ep, e, c⟩ := x; exact ⟨z, y, vs, r, ob, es, ep, k _ _ (.inl rfl) e, c⟩
 | dT kvs =>
  obtain ⟨z, y, xs, r, ob, es, ep, e, c⟩ := x
  exact ⟨z, y, xs, Paired.mapP r λ p q z => ⟨z.1, ht _ _ z.2.1, z.2.2⟩, ob, es, ep, k _ _ (.inl rfl) e, c⟩
 | set S n => obtain ⟨ob, es, ep, t, e, c⟩ := x; exact ⟨ob, es, ep, t, k _ _ (.inl rfl) e, c⟩
 | ins C dx fs =>
  obtain ⟨d, z, ne, e, mA, ⟨od, es, ep, e2, c⟩, r⟩ := x
  exact ⟨ho _ d, z, ne, k _ _ (.inl rfl) e, mA, ⟨od, es, ep, k _ _ (.inr d) e2, c⟩, r⟩
 | own y => obtain ⟨ob, e⟩ := x; exact ⟨ob, k _ _ (.inl rfl) e⟩
 | xd fs => obtain ⟨mA, ⟨od, es, ep, e, c⟩, r⟩ := x; exact ⟨mA, ⟨od, es, ep, k _ _ (.inl rfl) e, c⟩, r⟩
 | rng lo hi => obtain ⟨t, u, v, e⟩ := x; exact ⟨t, u, v, k _ _ (.inl rfl) e⟩
 | frz ob u ih => obtain ⟨e, q⟩ := x; exact ⟨k _ _ (.inl rfl) e, ih q⟩
 | tbl ps =>
  have e : h.get? a = some { cls := .none, data := .fields ps } := x
  show h'.get? a = some { cls := .none, data := .fields ps }
  exact k a _ (.inl rfl) e
 | met f y =>
  have e : h.get? a = some (PySem.W.methodObj (.ref f) (.ref y)) := x
  show h'.get? a = some (PySem.W.methodObj (.ref f) (.ref y))
  exact k a _ (.inl rfl) e
 | ext φ => obtain ⟨p, ⟨o, e⟩, st⟩ := x; exact ⟨st _ _ p λ o q => k _ _ (.inl rfl) q, ⟨o, k _ _ (.inl rfl) e⟩, st⟩
theorem HOk.lt (x : HOk P w H h) (e : H a = some o) : a < h.objs.size := (x a o e).lt
theorem HOk.fresh (x : HOk P w H h) (e : h.objs.size <= a) : H a = none := by
 cases q : H a with
 | none => rfl
 | some u => exact absurd (Nat.lt_of_lt_of_le (x.lt q) e) (Nat.lt_irrefl _)
theorem HOk.kept (x : HOk P w H h) (k : ∀ b u, h.get? b = some u -> h'.get? b = some u) : HOk P w H h' := λ a o e =>
 (x a o e).stay (λ b u _ q => k b u q) (λ _ q => q) λ _ _ q => q
theorem HOk.laid (x : HOk P w H h) (k : ∀ b u, h.get? b = some u -> h'.get? b = some u) (hp : h.objs.size <= a) (new : q0Y P w (upd H a o) h' a o) : HOk P w (upd H a o) h' := λ b u e => by
 have hn := x.fresh hp
 by_cases hb : b = a
 ·subst hb; rw [q0m] at e; cases e; exact new
 ·rw [q0j hb] at e
  exact (x b u e).stay (λ c v _ q => k c v q) (λ c q => by rw [q0j (q0o q hn)]; exact q) λ c xs q => by rw [q0j (q0o q hn)]; exact q
end
noncomputable def Rd (H : Hp) (a : Addr) (u : HO) : Prop := H a = some u \/ ∃ o, H a = some (.frz o u)
theorem Rd.ok {P : Program} {w : World} {H : Hp} {h : Heap} {a : Addr} {u : HO} (r : Rd H a u) (x : HOk P w H h) : q0Y P w H h a u := by
 rcases r with r | ⟨o, r⟩
 ·exact x a u r
 ·obtain ⟨_, q⟩ := x a _ r
  exact q
noncomputable def Mut : Option HO -> Prop
 | some (.lst _) => True
 | some (.dK _) => True
 | some (.dT _) => True
 | some (.set _ _) => True
 | some (.ins _ _ _) => True
 | some (.ext _) => True
 | _ => False
section
variable {P : Program} {w : World} {H : Hp} {h h' : Heap} {x e : Addr} {o' : HO}
theorem HOk.write (ok : HOk P w H h) (mu : Mut (H x)) (he : e = x \/ H e = some (.own x)) (k : ∀ b u, b ≠ e -> h.get? b = some u -> h'.get? b = some u) (heo : ∃ u, h'.get? e = some u)
  (new : q0Y P w (upd H x o') h' x o') : HOk P w (upd H x o') h' := λ b u q => by
 have nown : ∀ c y, H c = some (.own y) -> c ≠ x := λ c y r z => by subst z; rw [r] at mu; exact mu
 have ntup : ∀ c xs, H c = some (.tup xs) -> c ≠ x := λ c xs r z => by subst z; rw [r] at mu; exact mu
 by_cases hb : b = x
 ·subst hb; rw [q0m] at q; cases q; exact new
 ·rw [q0j hb] at q
  by_cases hbe : b = e
  ·have q' : H b = some (.own x) := by
    rcases he with z | z
    ·exact absurd (hbe.trans z) hb
    ·rw [hbe]; exact z
   rw [q] at q'; cases q'
   obtain ⟨v, hv⟩ := heo
   exact ⟨v, by rw [hbe]; exact hv⟩
  ·refine (ok b u q).stay (λ c v hc r => k c v ?_ r) (λ c r => by rw [q0j (nown c b r)]; exact r) λ c xs r => by rw [q0j (ntup c xs r)]; exact r
   rcases hc with rfl | hc
   ·exact hbe
   ·rintro rfl
    rcases he with z | z
    ·exact nown c b hc z
    ·rw [hc] at z; cases z; exact hb rfl
end
structure Un (fs ex : List Addr) (H H' : Hp) (h h' : Heap) : Prop where
 keep : ∀ b o, h.get? b = some o -> H b = none -> b ∉ fs -> b ∉ ex -> h'.get? b = some o
 slot : ∀ b o, h.get? b = some o -> H b = none -> b ∈ fs -> b ∉ ex -> ∃ sl, h'.get? b = some { o with slots := sl }
 free : ∀ b o, h.get? b = some o -> H b = none -> b ∉ ex -> H' b = none
 there : ∀ b o, h.get? b = some o -> b ∉ ex -> ∃ o', h'.get? b = some o'
 tups : ∀ b xs, H b = some (.tup xs) -> H' b = some (.tup xs)
 frzs : ∀ b o u, H b = some (.frz o u) -> H' b = some (.frz o u)
 tbls : ∀ b ps, H b = some (.tbl ps) -> ∃ more, H' b = some (.tbl (ps ++ more))
section
variable {fs fs' ex ex' : List Addr} {H H1 H2 : Hp} {h h1 h2 h' : Heap} {a x e : Addr} {o : HO}
theorem Un.any (u : Un fs ex H H1 h h1) {b : Addr} {ob : Obj} (q : h.get? b = some ob) (n : H b = none) (hx : b ∉ ex) : ∃ sl, h1.get? b = some { ob with slots := sl } := by
 by_cases hb : b ∈ fs
 ·exact u.slot b ob q n hb hx
 ·exact ⟨ob.slots, u.keep b ob q n hb hx⟩
theorem Un.kept (k : ∀ b u, h.get? b = some u -> h'.get? b = some u) : Un fs ex H H h h' :=
 ⟨λ b ob q _ _ _ => k b ob q, λ b ob q _ _ _ => ⟨ob.slots, k b ob q⟩, λ _ _ _ n _ => n, λ b ob q _ => ⟨ob, k b ob q⟩, λ _ _ q => q, λ _ _ _ q => q, λ _ ps q => ⟨#[], by rw [q]; simp⟩⟩
theorem Un.refl : Un fs ex H H h h := Un.kept λ _ _ q => q
theorem Un.laid (k : ∀ b u, h.get? b = some u -> h'.get? b = some u) (hp : h.objs.size <= a) (hn : H a = none) : Un fs ex H (upd H a o) h h' where
 keep := λ b u q _ _ _ => k b u q
 slot := λ b u q _ _ _ => ⟨u.slots, k b u q⟩
 free := λ b u q n _ => by rw [q0j (Nat.ne_of_lt (Nat.lt_of_lt_of_le (Heap.lt_size q) hp))]; exact n
 there := λ b u q _ => ⟨u, k b u q⟩
 tups := λ b xs q => by rw [q0j (q0o q hn)]; exact q
 frzs := λ b u xs q => by rw [q0j (q0o q hn)]; exact q
 tbls := λ b ps q => ⟨#[], by rw [q0j (q0o q hn), q]; simp⟩
theorem Un.write (mu : Mut (H x)) (he : e = x \/ H e = some (.own x)) (k : ∀ b u, b ≠ e -> h.get? b = some u -> h'.get? b = some u) (heo : ∃ u, h'.get? e = some u) : Un fs ex H (upd H x o) h h' := by
 have hx : ∀ b, H b = none -> b ≠ x := λ b n z => by subst z; rw [n] at mu; exact mu
 have hb : ∀ b, H b = none -> b ≠ e := λ b n z => by
  subst z
  rcases he with r | r
  ·exact hx b n r
  ·rw [n] at r; cases r
 have hm : ∀ b u, H b = some u -> ¬ Mut (some u) -> b ≠ x := λ b u q nm z => by subst z; rw [q] at mu; exact nm mu
 refine ⟨λ b u q n _ _ => k b u (hb b n) q, λ b u q n _ _ => ⟨u.slots, k b u (hb b n) q⟩, λ b u q n _ => by rw [q0j (hx b n)]; exact n, λ b u q _ => ?_,
  λ b xs q => by rw [q0j (hm b _ q λ z => z)]; exact q, λ b u xs q => by rw [q0j (hm b _ q λ z => z)]; exact q, λ b ps q => ⟨#[], by rw [q0j (hm b _ q λ z => z), q]; simp⟩⟩
 by_cases hbe : b = e
 ·subst hbe; exact heo
 ·exact ⟨u, k b u hbe q⟩
end
noncomputable def trk (h : Heap) (H : Hp) : List Addr := (List.range h.objs.size).filter λ a => (H a).isSome
noncomputable def hidT (h : Heap) (H : Hp) : Heap := PySem.W.hideAll h (trk h H)
theorem q9c (h : Heap) (H : Hp) : (hidT h H).objs.size = h.objs.size := PySem.W.hideAll_size _ _
theorem z0m {h : Heap} {H : Hp} {b : Addr} {o : Obj} (e : h.get? b = some o) (n : H b = none) : (hidT h H).get? b = some o :=
 PySem.W.hideAll_get _ e λ hm => by
  have q : (H b).isSome = true := (List.mem_filter.mp hm).2
  rw [n] at q; simp at q
theorem z1V {h : Heap} {H : Hp} {b : Addr} {o : Obj} (e : (hidT h H).get? b = some o) : h.get? b = some o /\ H b = none := by
 have e' : h.get? b = some o := PySem.W.of_hideAll (trk h H) e
 refine ⟨e', ?_⟩
 cases q : H b with
 | none => rfl
 | some x =>
  have hm : b ∈ trk h H := List.mem_filter.mpr ⟨List.mem_range.mpr (Heap.lt_size e'), by simp [q]⟩
  have z : (hidT h H).get? b = none := PySem.W.hideAll_none (trk h H) hm
  rw [z] at e; cases e
noncomputable def z2k (g h : Heap) (L : Addr) : List (Addr × Obj) := (List.range h.objs.size).filterMap λ a => if a = L \/ (g.get? a).isSome = true then none else (h.get? a).map λ o => (a, o)
noncomputable def rest (g h : Heap) (L d : Addr) : List (Addr × Obj) := (z2k g h L).filter λ p => decide (p.1 ≠ d)
end L2
namespace L2
open PySem PySem.Spec PyProof.Rows
structure Mod (K : PySem.W.Frag) (mg : Str -> Option Value) (base : Heap) : Prop where
 kin : K.In base
 glob : base.Ns mainGlobals mg
 blt : ∃ mb, base.Ns builtinsNs mb /\ ∀ x : Str, x ≠ "__name__" -> mb x = bootBuiltins x
 nolimit : base.NoLimit
structure Cx where
 prog : Program
 w : World
 K : PySem.W.Frag
 mg : Str -> Option Value
 base : Heap
 A : Around
 N : List Str
 s₀ : Shared
 H₀ : Hp
 env : Env
 outer : List Env
 stack : List Env
 ex : List Addr
 fn : Str -> Bool
 calm : Bool
 pn : List (Addr × Obj)
 xe : Value -> Shared -> Prop
noncomputable def frs (l : List Env) : List Addr := l.filterMap (·.frame)
noncomputable abbrev Cx.fs (X : Cx) : List Addr := frs X.outer
noncomputable def Vis (sc : Scope) (x : Str) : Prop := sc.names.lookup x = some .local \/ sc.names.lookup x = some .cell \/ sc.names.lookup x = some .free
noncomputable def Loc (sc : Scope) (x : Str) : Prop := sc.names.lookup x = some .local \/ sc.names.lookup x = some .cell
noncomputable def Look (env : Env) (h : Heap) (m : Str -> Option Value) (x : Str) (u : Value) : Prop :=
 (env.kindOf x = some .local /\ m x = some u) \/ ((env.kindOf x = some .cell \/ env.kindOf x = some .free) /\ ∃ c, env.cells.lookup x = some c /\ h.IsCell c (some u))
structure Cx.Ok (X : Cx) : Prop where
 mod : Mod X.K X.mg X.base
 kind : X.env.scope.kind = .function
 glob : X.env.globals = mainGlobals
 blt : X.env.builtins = builtinsNs
 above : X.s₀.heap.objs.size <= X.env.locals
 inj : ∀ x y c, X.env.cells.lookup x = some c -> X.env.cells.lookup y = some c -> x = y
 has : ∀ x, (X.env.kindOf x = some .cell \/ X.env.kindOf x = some .free) -> ∃ c, X.env.cells.lookup x = some c
 cab : ∀ x c, X.fn x = true -> X.env.cells.lookup x = some c -> X.s₀.heap.objs.size <= c
 hd : X.calm = true -> X.A.handled = none
 frames : X.A.frames = some X.stack
 stk : X.stack = X.outer \/ (X.stack = X.env :: X.outer /\ X.env.frame = some X.env.locals)
 exf : ∀ b ∈ X.ex, b ≠ X.env.locals /\ ∀ x c, X.env.cells.lookup x = some c -> c ≠ b
 bs : ∀ b o, X.base.get? b = some o -> X.s₀.heap.get? b = some o /\ X.H₀ b = none
 bsz : X.base.objs.size <= X.s₀.heap.objs.size
 noex : ∀ b o, X.base.get? b = some o -> b ∉ X.ex
 exfs : ∀ b ∈ X.ex, b ∉ X.fs
 funs : X.s₀.heap.FunFrames X.base X.outer
 frf : ∀ b ∈ X.fs, X.H₀ b = none
structure Inv (X : Cx) (pins : List (Addr × Obj)) (σ : List (Option V)) (H : Hp) (s : Shared) : Prop where
 ok : X.Ok
 os : s.os = X.s₀.os
 bare : AllBare s.gens
 base : Un X.fs X.ex X.H₀ H X.s₀.heap s.heap
 loc : ∃ m, s.heap.Ns X.env.locals m /\ ∀ (i : Nat) (x : Str) (v : V), X.N[i]? = some x -> σ[i]? = some (some v) -> Vis X.env.scope x -> ∃ u, RelV v u /\ Look X.env s.heap m x u
 cell : ∀ x c, X.env.cells.lookup x = some c -> ∃ v, s.heap.IsCell c v
 free : H X.env.locals = none
 freeC : ∀ x c, X.env.cells.lookup x = some c -> H c = none
 pin : ∀ p ∈ X.pn ++ pins, s.heap.get? p.1 = some p.2 /\ H p.1 = none /\ p.1 ≠ X.env.locals /\ p.1 ∉ X.fs /\ ∀ v, p.2.data ≠ .cell v
 hok : HOk X.prog X.w H s.heap
 len : σ.length = X.N.length
section
variable {X : Cx} {pins : List (Addr × Obj)} {σ : List (Option V)} {H H' : Hp} {s : Shared} {h' : Heap}
theorem Cx.Ok.nofr (ok : X.Ok) {b : Addr} {o : Obj} (e : X.base.get? b = some o) : b ∉ X.fs := λ hb => by
 have := (ok.funs.mem hb).1
 rw [e] at this; cases this
theorem Inv.bs (I : Inv X pins σ H s) : ∀ b o, X.base.get? b = some o -> s.heap.get? b = some o /\ H b = none := λ b o e =>
 ⟨I.base.keep b o (I.ok.bs b o e).1 (I.ok.bs b o e).2 (I.ok.nofr e) (I.ok.noex b o e), I.base.free b o (I.ok.bs b o e).1 (I.ok.bs b o e).2 (I.ok.noex b o e)⟩
theorem Inv.bk (I : Inv X pins σ H s) : ∀ b o, X.base.get? b = some o -> s.heap.get? b = some o := λ b o e => (I.bs b o e).1
theorem Inv.mod (I : Inv X pins σ H s) : Mod X.K X.mg X.base := I.ok.mod
theorem Inv.kIn (I : Inv X pins σ H s) : X.K.In s.heap := I.ok.mod.kin.keeps I.bk
theorem Inv.lt (I : Inv X pins σ H s) : X.env.locals < s.heap.objs.size := let ⟨_, hn, _⟩ := I.loc; hn.lt
theorem Inv.sz (I : Inv X pins σ H s) : X.s₀.heap.objs.size <= s.heap.objs.size := Nat.le_trans I.ok.above (Nat.le_of_lt I.lt)
theorem Inv.nofs (I : Inv X pins σ H s) {a : Addr} (h : s.heap.objs.size <= a) : a ∉ X.fs := λ hb => by
 obtain ⟨_, o, ho, _⟩ := I.ok.funs.mem hb
 exact absurd (Nat.lt_of_lt_of_le (Heap.lt_size ho) (Nat.le_trans I.sz h)) (Nat.lt_irrefl _)
theorem Inv.cne (I : Inv X pins σ H s) : ∀ x c, X.env.cells.lookup x = some c -> c ≠ X.env.locals := λ x c e z => by
 obtain ⟨v, o, ho, hd⟩ := I.cell x c e
 obtain ⟨m, ⟨o', es, ep, ho', hd', _⟩, _⟩ := I.loc
 rw [z, ho'] at ho; cases ho; rw [hd'] at hd; cases hd
theorem Inv.funs (I : Inv X pins σ H s) : s.heap.FunFrames X.base X.outer := by
 have all : ∀ (l : List Env), (∀ b ∈ frs l, b ∈ X.fs) -> X.s₀.heap.FunFrames X.base l -> s.heap.FunFrames X.base l := by
  intro l
  induction l with
  | nil => intro _ _; trivial
  | cons env r ih =>
   intro hs hl
   obtain ⟨hk, ⟨L, o, hf, hn, ho, hd⟩, hr⟩ := hl
   have hL : L ∈ X.fs := hs L (by unfold frs; rw [List.filterMap_cons, hf]; exact List.mem_cons_self)
   obtain ⟨sl, e⟩ := I.base.slot L o ho (I.ok.frf L hL) hL λ z => I.ok.exfs L z hL
   exact ⟨hk, ⟨L, _, hf, hn, e, hd⟩, ih (λ b hb => hs b (by unfold frs; rw [List.filterMap_cons, hf]; exact List.mem_cons_of_mem _ hb)) hr⟩
 exact all X.outer (λ _ hb => hb) I.ok.funs
theorem Inv.stack (I : Inv X pins σ H s) : s.heap.FunFrames X.base X.stack := by
 rcases I.ok.stk with e | ⟨e, hf⟩
 ·rw [e]; exact I.funs
 ·rw [e]
  obtain ⟨m, hn, _⟩ := I.loc
  refine .cons (by rw [I.ok.kind]; decide) hf hn ?_ I.funs
  exact Heap.get?_none_of_le (Nat.le_trans I.ok.bsz I.ok.above)
theorem Inv.stkSub (I : Inv X pins σ H s) : ∀ b ∈ frs X.stack, b ∈ X.env.locals :: X.fs := λ b hb => by
 rcases I.ok.stk with e | ⟨e, hf⟩
 ·rw [e] at hb; exact List.mem_cons_of_mem _ hb
 ·rw [e] at hb
  unfold frs at hb
  rw [List.filterMap_cons, hf] at hb
  exact hb
theorem Inv.stkFree (I : Inv X pins σ H s) : ∀ b ∈ frs X.stack, H b = none := λ b hb => by
 rcases List.mem_cons.mp (I.stkSub b hb) with e | hb
 ·rw [e]; exact I.free
 ·obtain ⟨_, o, ho, _⟩ := I.ok.funs.mem hb
  exact I.base.free b o ho (I.ok.frf b hb) λ z => I.ok.exfs b z hb
theorem Inv.step {g' : Array GenState} {t' : Nat} {d' : Drawn} {ch : List Addr} (I : Inv X pins σ H s)
  (hch : ∀ b ∈ ch, (b ∈ X.ex \/ X.s₀.heap.objs.size <= b) /\ b ≠ X.env.locals /\ (∀ x c, X.env.cells.lookup x = some c -> c ≠ b) /\ ∀ p ∈ X.pn ++ pins, p.1 ≠ b)
  (keep : ∀ b o, b ≠ X.env.locals -> b ∉ X.fs -> b ∉ ch -> s.heap.get? b = some o -> H b = none -> h'.get? b = some o)
  (slot : ∀ b o, b ≠ X.env.locals -> b ∈ X.fs -> b ∉ ch -> s.heap.get? b = some o -> H b = none -> ∃ sl, h'.get? b = some { o with slots := sl }) (free : ∀ b o, b ∉ ch -> s.heap.get? b = some o -> H b = none -> H' b = none)
  (there : ∀ b o, b ∉ ch -> s.heap.get? b = some o -> ∃ o', h'.get? b = some o')
  (tups : ∀ b xs, H b = some (.tup xs) -> H' b = some (.tup xs)) (frzs : ∀ b o u, H b = some (.frz o u) -> H' b = some (.frz o u)) (tbls : ∀ b ps, H b = some (.tbl ps) -> ∃ more, H' b = some (.tbl (ps ++ more)))
  (ns : ∀ m, s.heap.Ns X.env.locals m -> h'.Ns X.env.locals m) (hok : HOk X.prog X.w H' h') (hg : AllBare g') :
  Inv X pins σ H' { s with heap := h', gens := g', drawn := d', toks := t' } := by
 have neL : ∀ b o, X.s₀.heap.get? b = some o -> b ≠ X.env.locals := λ b o e => Nat.ne_of_lt (Nat.lt_of_lt_of_le (Heap.lt_size e) I.ok.above)
 have neC : ∀ b o, X.s₀.heap.get? b = some o -> b ∉ X.ex -> b ∉ ch := λ b o e hx hb => by
  rcases (hch b hb).1 with z | z
  ·exact hx z
  ·exact absurd (Nat.lt_of_lt_of_le (Heap.lt_size e) z) (Nat.lt_irrefl _)
 have cellK : ∀ x c, X.env.cells.lookup x = some c -> ∀ v, s.heap.IsCell c v -> h'.IsCell c v := λ x c e v ⟨o, ho, hd⟩ => by
  have nch : c ∉ ch := λ z => (hch c z).2.2.1 x c e rfl
  by_cases hc : c ∈ X.fs
  ·obtain ⟨sl, q⟩ := slot c o (I.cne x c e) hc nch ho (I.freeC x c e)
   exact ⟨_, q, hd⟩
  ·exact ⟨o, keep c o (I.cne x c e) hc nch ho (I.freeC x c e), hd⟩
 refine ⟨I.ok, I.os, hg, ⟨λ b o e n hb hx => ?_, λ b o e n hb hx => ?_, λ b o e n hx => ?_, λ b o e hx => ?_, λ b xs e => tups b xs (I.base.tups b xs e), λ b o xs e => frzs b o xs (I.base.frzs b o xs e), λ b ps e => ?_⟩, ?_, λ x c e => ?_, ?_, λ x c e => ?_, λ p hp => ?_, hok, I.len⟩
 ·exact keep b o (neL b o e) hb (neC b o e hx) (I.base.keep b o e n hb hx) (I.base.free b o e n hx)
 ·obtain ⟨sl, e1⟩ := I.base.slot b o e n hb hx
  obtain ⟨sl', e2⟩ := slot b _ (neL b o e) hb (neC b o e hx) e1 (I.base.free b o e n hx)
  exact ⟨sl', e2⟩
 ·obtain ⟨o', e1⟩ := I.base.there b o e hx
  exact free b o' (neC b o e hx) e1 (I.base.free b o e n hx)
 ·obtain ⟨o', e1⟩ := I.base.there b o e hx
  exact there b o' (neC b o e hx) e1
 ·obtain ⟨m1, e1⟩ := I.base.tbls b ps e
  obtain ⟨m2, e2⟩ := tbls b _ e1
  exact ⟨m1 ++ m2, by rw [e2, Array.append_assoc]⟩
 ·obtain ⟨m, hn, hl⟩ := I.loc
  refine ⟨m, ns m hn, λ i x v e1 e2 e3 => ?_⟩
  obtain ⟨u, r, l⟩ := hl i x v e1 e2 e3
  refine ⟨u, r, ?_⟩
  rcases l with l | ⟨k, c, e, z⟩
  ·exact .inl l
  ·exact .inr ⟨k, c, e, cellK x c e _ z⟩
 ·obtain ⟨v, z⟩ := I.cell x c e
  exact ⟨v, cellK x c e v z⟩
 ·obtain ⟨m, ⟨o, _, _, ho, _⟩, _⟩ := I.loc
  exact free _ o (λ z => (hch _ z).2.1 rfl) ho I.free
 ·obtain ⟨v, o, ho, hd⟩ := I.cell x c e
  exact free c o (λ z => (hch c z).2.2.1 x c e rfl) ho (I.freeC x c e)
 ·obtain ⟨e, n, ne, nf, d⟩ := I.pin p hp
  have nch : p.1 ∉ ch := λ z => (hch p.1 z).2.2.2 p hp rfl
  exact ⟨keep p.1 p.2 ne nf nch e n, free p.1 p.2 nch e n, ne, nf, d⟩
theorem Inv.un {t' : Nat} (I : Inv X pins σ H s) (u : Un X.fs [] H H' s.heap h') (hok : HOk X.prog X.w H' h') : Inv X pins σ H' { s with heap := h', toks := t' } := by
 obtain ⟨m, ⟨o, es, ep, ho, r⟩, _⟩ := id I.loc
 obtain ⟨sl, hL⟩ := u.any ho I.free (by simp)
 exact I.step (g' := s.gens) (d' := s.drawn) (ch := []) (λ _ z => nomatch z) (λ b o _ hb _ e n => u.keep b o e n hb (by simp)) (λ b o _ hb _ e n => u.slot b o e n hb (by simp)) (λ b o _ e n => u.free b o e n (by simp)) (λ b o _ e => u.there b o e (by simp)) u.tups u.frzs u.tbls (λ m' hm => by
  obtain ⟨o', es', ep', ho', r'⟩ := hm
  rw [ho] at ho'; cases ho'
  exact ⟨_, es', ep', hL, r'⟩) hok I.bare
theorem Inv.call {g' : Array GenState} {t' : Nat} {d' : Drawn} {ch : List Addr} (I : Inv X pins σ H s) (u : Un (frs X.stack) ch H H' s.heap h') (hok : HOk X.prog X.w H' h') (hg : AllBare g')
  (hch : ∀ b ∈ ch, (b ∈ X.ex \/ X.s₀.heap.objs.size <= b) /\ b ≠ X.env.locals /\ (∀ x c, X.env.cells.lookup x = some c -> c ≠ b) /\ ∀ p ∈ X.pn ++ pins, p.1 ≠ b) :
  Inv X pins σ H' { s with heap := h', gens := g', drawn := d', toks := t' } := by
 obtain ⟨m, ⟨o, es, ep, ho, r⟩, _⟩ := id I.loc
 obtain ⟨sl, hL⟩ := u.any ho I.free λ z => (hch _ z).2.1 rfl
 exact I.step (ch := ch) hch (λ b o hL hb hc e n => u.keep b o e n (λ z => (List.mem_cons.mp (I.stkSub b z)).elim hL hb) hc) (λ b o _ _ hc e n => u.any e n hc) (λ b o hc e n => u.free b o e n hc) (λ b o hc e => u.there b o e hc) u.tups u.frzs u.tbls (λ m' hm => by
  obtain ⟨o', es', ep', ho', r'⟩ := hm
  rw [ho] at ho'; cases ho'
  exact ⟨_, es', ep', hL, r'⟩) hok hg
theorem Inv.turned {t' : Nat} {it : Addr} (I : Inv X pins σ H s) (k : ∀ b o, b ≠ it -> s.heap.get? b = some o -> h'.get? b = some o) (hn : H it = none) (hL : it ≠ X.env.locals)
  (h1 : it ∈ X.ex \/ X.s₀.heap.objs.size <= it) (h2 : ∀ x c, X.env.cells.lookup x = some c -> c ≠ it) (h3 : ∀ p ∈ X.pn ++ pins, p.1 ≠ it) : Inv X pins σ H { s with heap := h', toks := t' } := by
 have nit : ∀ b u, H b = some u -> b ≠ it := λ b u e z => by rw [z, hn] at e; cases e
 refine I.step (g' := s.gens) (d' := s.drawn) (ch := [it]) (λ b hb => ?_) (λ b o _ _ hc e _ => k b o (λ z => hc (by simp [z])) e) (λ b o _ _ hc e _ => ⟨o.slots, k b o (λ z => hc (by simp [z])) e⟩) (λ _ _ _ _ n => n)
  (λ b o hc e => ⟨o, k b o (λ z => hc (by simp [z])) e⟩) (λ _ _ e => e) (λ _ _ _ e => e) (λ b ps e => ⟨#[], by rw [e]; simp⟩) (λ m hm => ?_) (λ b u e => ?_) I.bare
 ·have e : b = it := by simpa using hb
  subst e
  exact ⟨h1, hL, h2, h3⟩
 ·obtain ⟨o, es, ep, ho, r⟩ := hm
  exact ⟨o, es, ep, k _ o (Ne.symm hL) ho, r⟩
 ·refine (I.hok b u e).stay (λ c v hc q => k c v ?_ q) (λ _ q => q) λ _ _ q => q
  rcases hc with z | z
  ·rw [z]; exact nit b u e
  ·exact nit c _ z
theorem Inv.tok (I : Inv X pins σ H s) (t : Nat) : Inv X pins σ H { s with toks := t } := I.un (h' := s.heap) (t' := t) Un.refl I.hok
theorem Inv.kept {t' : Nat} (I : Inv X pins σ H s) (k : ∀ b u, s.heap.get? b = some u -> h'.get? b = some u) : Inv X pins σ H { s with heap := h', toks := t' } := I.un (Un.kept k) (I.hok.kept k)
theorem Inv.laid {a : Addr} {o : HO} {t' : Nat} (I : Inv X pins σ H s) (k : ∀ b u, s.heap.get? b = some u -> h'.get? b = some u) (hp : s.heap.objs.size <= a) (new : q0Y X.prog X.w (upd H a o) h' a o) :
  Inv X pins σ (upd H a o) { s with heap := h', toks := t' } := I.un (Un.laid k hp (I.hok.fresh hp)) (I.hok.laid k hp new)
theorem Inv.write {x e : Addr} {o : HO} {t' : Nat} (I : Inv X pins σ H s) (mu : Mut (H x)) (he : e = x \/ H e = some (.own x)) (k : ∀ b u, b ≠ e -> s.heap.get? b = some u -> h'.get? b = some u) (heo : ∃ u, h'.get? e = some u)
  (new : q0Y X.prog X.w (upd H x o) h' x o) : Inv X pins σ (upd H x o) { s with heap := h', toks := t' } := I.un (Un.write mu he k heo) (I.hok.write mu he k heo new)
theorem Inv.pins_of {pins' : List (Addr × Obj)} (I : Inv X pins σ H s) (h : ∀ p ∈ pins', s.heap.get? p.1 = some p.2 /\ H p.1 = none /\ p.1 ≠ X.env.locals /\ p.1 ∉ X.fs /\ ∀ v, p.2.data ≠ .cell v) : Inv X pins' σ H s :=
 ⟨I.ok, I.os, I.bare, I.base, I.loc, I.cell, I.free, I.freeC, λ p hp => (List.mem_append.mp hp).elim (λ z => I.pin p (List.mem_append_left _ z)) (h p), I.hok, I.len⟩
theorem q4v {N : List Str} (hN : N.Nodup) {i j : Nat} {x : Str} (a : N[i]? = some x) (b : N[j]? = some x) : i = j := by
 obtain ⟨h1, e1⟩ := List.getElem?_eq_some_iff.mp a
 obtain ⟨h2, e2⟩ := List.getElem?_eq_some_iff.mp b
 exact (List.getElem_inj hN).mp (e1.trans e2.symm)
theorem q5d {M : Model} {A : Around} {E : Value -> Shared -> Prop} {i : Nat} {x : Str} {v : V} {u : Value} {Q : Unit -> Shared -> Prop} (I : Inv X pins σ H s) (hN : X.N.Nodup) (hi : X.N[i]? = some x) (hx : Loc X.env.scope x) (r : RelV v u)
  (h : ∀ s', Inv X pins (σ.set i (some v)) H s' -> (∃ a, Heap.SameBut a s.heap s'.heap /\ (a = X.env.locals \/ X.env.cells.lookup x = some a)) -> Q () s') (hf : X.fn x = true \/ X.env.scope.names.lookup x = some .local := by first | exact .inl rfl | exact .inr rfl | assumption) : wpAny M A (storeName X.env x u) Q E s := by
 obtain ⟨m, hn, hl⟩ := id I.loc
 have hcls : (X.env.scope.kind == .class || (X.env.scope.kind == .module && X.env.locals != X.env.globals)) = false := by rw [I.ok.kind]; rfl
 have hiσ : i < σ.length := by rw [I.len]; exact (List.getElem?_eq_some_iff.mp hi).1
 have cne := I.cne
 have tracked : ∀ {a : Addr} {h' : Heap}, (∃ o, s.heap.get? a = some o /\ H a = none) -> Heap.SameBut a s.heap h' -> HOk X.prog X.w H h' := λ {a h'} ha hs b ob e => by
  obtain ⟨_, _, hfree⟩ := ha
  refine (I.hok b ob e).stay (λ c w' hc q => (hs.2 c ?_).trans q) (λ _ q => q) λ _ _ q => q
  rintro rfl
  rcases hc with rfl | hc
  ·rw [hfree] at e; cases e
  ·rw [hfree] at hc; cases hc
 rcases hx with hk | hk
 ·refine wpAny_storeName_local hk hn (λ h' hn' hs => ?_) hcls
  obtain ⟨oL, _, _, hoL, _⟩ := id hn
  refine h _ ⟨I.ok, I.os, I.bare, ⟨λ b o e n hb hx => ?_, λ b o e n hb hx => ?_, I.base.free, λ b o e hx => ?_, I.base.tups, I.base.frzs, I.base.tbls⟩, ⟨_, hn', λ j y v' e1 e2 e3 => ?_⟩, λ y c e => ?_, I.free, I.freeC, λ p hp => ?_, tracked ⟨oL, hoL, I.free⟩ hs, by simpa using I.len⟩ ⟨_, hs, .inl rfl⟩
  ·exact (hs.2 b (Nat.ne_of_lt (Nat.lt_of_lt_of_le (Heap.lt_size e) I.ok.above))).trans (I.base.keep b o e n hb hx)
  ·obtain ⟨sl, e1⟩ := I.base.slot b o e n hb hx
   exact ⟨sl, (hs.2 b (Nat.ne_of_lt (Nat.lt_of_lt_of_le (Heap.lt_size e) I.ok.above))).trans e1⟩
  ·obtain ⟨o', e1⟩ := I.base.there b o e hx
   exact ⟨o', (hs.2 b (Nat.ne_of_lt (Nat.lt_of_lt_of_le (Heap.lt_size e) I.ok.above))).trans e1⟩
  ·by_cases hj : j = i
   ·subst hj
    rw [hi] at e1; cases e1
    rw [List.getElem?_set_self hiσ] at e2
    cases e2
    exact ⟨u, r, .inl ⟨hk, by simp⟩⟩
   ·rw [List.getElem?_set_ne (Ne.symm hj)] at e2
    obtain ⟨u', r', q⟩ := hl j y v' e1 e2 e3
    refine ⟨u', r', ?_⟩
    rcases q with ⟨k, e⟩ | ⟨k, c, e, z⟩
    ·refine .inl ⟨k, ?_⟩
     have : y ≠ x := λ e => hj (q4v hN e1 (e ▸ hi))
     simp [this, e]
    ·exact .inr ⟨k, c, e, z.sameBut hs (cne y c e)⟩
  ·obtain ⟨w', z⟩ := I.cell y c e
   exact ⟨w', z.sameBut hs (cne y c e)⟩
  ·obtain ⟨e, n, ne, nf, d⟩ := I.pin p hp
   exact ⟨(hs.2 p.1 ne).trans e, n, ne, nf, d⟩
 ·have hfn : X.fn x = true := by
   rcases hf with z | z
   ·exact z
   ·rw [z] at hk; cases hk
  obtain ⟨c, hc⟩ := I.ok.has x (.inl hk)
  obtain ⟨w', z⟩ := I.cell x c hc
  refine wpAny_storeName_cell I.ok.kind hk hc z (λ h' hc' hs => ?_)
  obtain ⟨oc, hoc, hocd⟩ := id z
  refine h { s with heap := h' } ⟨I.ok, I.os, I.bare, ⟨λ b o e n hb hx => ?_, λ b o e n hb hx => ?_, I.base.free, λ b o e hx => ?_, I.base.tups, I.base.frzs, I.base.tbls⟩, ⟨m, hn.sameBut hs (Ne.symm (cne x c hc)), λ j y v' e1 e2 e3 => ?_⟩, λ y c' e => ?_, I.free, I.freeC, λ p hp => ?_, tracked ⟨oc, hoc, I.freeC x c hc⟩ hs, by simpa using I.len⟩ ⟨c, hs, .inr hc⟩
  ·exact (hs.2 b (Nat.ne_of_lt (Nat.lt_of_lt_of_le (Heap.lt_size e) (I.ok.cab x c hfn hc)))).trans (I.base.keep b o e n hb hx)
  ·obtain ⟨sl, e1⟩ := I.base.slot b o e n hb hx
   exact ⟨sl, (hs.2 b (Nat.ne_of_lt (Nat.lt_of_lt_of_le (Heap.lt_size e) (I.ok.cab x c hfn hc)))).trans e1⟩
  ·obtain ⟨o', e1⟩ := I.base.there b o e hx
   exact ⟨o', (hs.2 b (Nat.ne_of_lt (Nat.lt_of_lt_of_le (Heap.lt_size e) (I.ok.cab x c hfn hc)))).trans e1⟩
  ·by_cases hj : j = i
   ·subst hj
    rw [hi] at e1; cases e1
    rw [List.getElem?_set_self hiσ] at e2
    cases e2
    exact ⟨u, r, .inr ⟨.inl hk, c, hc, hc'⟩⟩
   ·rw [List.getElem?_set_ne (Ne.symm hj)] at e2
    obtain ⟨u', r', q⟩ := hl j y v' e1 e2 e3
    refine ⟨u', r', ?_⟩
    rcases q with q | ⟨k, c', e, z'⟩
    ·exact .inl q
    ·refine .inr ⟨k, c', e, z'.sameBut hs ?_⟩
     rintro rfl
     exact hj (q4v hN e1 (I.ok.inj _ _ _ e hc ▸ hi))
  ·by_cases hcc : c' = c
   ·subst hcc; exact ⟨_, hc'⟩
   ·obtain ⟨w2, z2⟩ := I.cell y c' e
    exact ⟨w2, z2.sameBut hs hcc⟩
  ·obtain ⟨e, n, ne, nf, d⟩ := I.pin p hp
   refine ⟨(hs.2 p.1 ?_).trans e, n, ne, nf, d⟩
   intro q
   rw [q, hoc] at e
   have q' : oc = p.2 := Option.some.inj e
   exact d w' (by rw [← q']; exact hocd)
theorem q6k {M : Model} {A : Around} {E : Value -> Shared -> Prop} {i : Nat} {x : Str} {v : V} {u : Value} {Q : Unit -> Shared -> Prop} (I : Inv X pins σ H s) (hN : X.N.Nodup) (hi : X.N[i]? = some x) (hx : Loc X.env.scope x) (r : RelV v u)
  (h : ∀ s', Inv X pins (σ.set i (some v)) H s' -> Q () s') (hf : X.fn x = true \/ X.env.scope.names.lookup x = some .local := by first | exact .inl rfl | exact .inr rfl | assumption) : wpAny M A (storeName X.env x u) Q E s :=
 q5d I hN hi hx r (λ s' I' _ => h s' I') hf
theorem Inv.call' {s' : Shared} {ch : List Addr} (I : Inv X pins σ H s) (ho : s'.os = s.os) (u : Un (frs X.stack) ch H H' s.heap s'.heap) (hok : HOk X.prog X.w H' s'.heap) (hg : AllBare s'.gens)
  (hch : ∀ b ∈ ch, (b ∈ X.ex \/ X.s₀.heap.objs.size <= b) /\ b ≠ X.env.locals /\ (∀ x c, X.env.cells.lookup x = some c -> c ≠ b) /\ ∀ p ∈ X.pn ++ pins, p.1 ≠ b) : Inv X pins σ H' s' := by
 obtain ⟨h', g', d', t', o'⟩ := s'
 have e : o' = s.os := ho
 subst e
 exact I.call (g' := g') (t' := t') (d' := d') u hok hg hch
end
noncomputable abbrev XK := Value -> Option Addr -> Hp -> Prop
noncomputable abbrev St := List (Option V)
noncomputable abbrev VK := V -> Hp -> Prop
noncomputable abbrev TE := St -> Hp -> VK -> Prop
noncomputable abbrev TT := St -> Hp -> (Bool -> Hp -> Prop) -> Prop
noncomputable abbrev TA := St -> Hp -> (List V -> Hp -> Prop) -> Prop
structure Ends where
 nx : St -> Hp -> Prop
 rt : VK
 bk : St -> Hp -> Prop := λ _ _ => False
 ct : St -> Hp -> Prop := λ _ _ => False
noncomputable abbrev TS := Ends -> St -> Hp -> Prop
noncomputable def EP (X : Cx) (pins : List (Addr × Obj)) (σ : St) (Q : VK) (u : Value) (s' : Shared) : Prop := ∃ v H', Inv X pins σ H' s' /\ RelV v u /\ Q v H'
noncomputable def TP (X : Cx) (pins : List (Addr × Obj)) (σ : St) (Q : Bool -> Hp -> Prop) (b : Bool) (s' : Shared) : Prop := ∃ H', Inv X pins σ H' s' /\ Q b H'
noncomputable def AP (X : Cx) (pins : List (Addr × Obj)) (σ : St) (Q : List V -> Hp -> Prop) (us : List Value) (s' : Shared) : Prop := ∃ vs H', Inv X pins σ H' s' /\ Vals vs us /\ Q vs H'
noncomputable def SP (X : Cx) (pins : List (Addr × Obj)) (D : Ends) (f : Flow) (s' : Shared) : Prop :=
 match f with
 | .next => ∃ σ' H', Inv X pins σ' H' s' /\ D.nx σ' H'
 | .brk => ∃ σ' H', Inv X pins σ' H' s' /\ D.bk σ' H'
 | .cont => ∃ σ' H', Inv X pins σ' H' s' /\ D.ct σ' H'
 | .ret u => ∃ v σ' H', Inv X pins σ' H' s' /\ RelV v u /\ D.rt v H'
noncomputable def PE (X : Cx) (e : Expr) (t : TE) : Prop :=
 ∀ (pins : List (Addr × Obj)) (s : Shared) (σ : St) (H : Hp) (Q : VK), Inv X pins σ H s -> t σ H Q -> wpAny (model X.prog X.w) X.A (eval e X.env) (EP X pins σ Q) X.xe s
noncomputable def PT (X : Cx) (e : Expr) (t : TT) : Prop :=
 ∀ (pins : List (Addr × Obj)) (s : Shared) (σ : St) (H : Hp) (Q : Bool -> Hp -> Prop), Inv X pins σ H s -> t σ H Q -> wpAny (model X.prog X.w) X.A (isTrue e X.env (eval e X.env)) (TP X pins σ Q) X.xe s
noncomputable def PW (X : Cx) (e : Expr) (t : TT) : Prop :=
 ∀ (whole : Sem Value) (pins : List (Addr × Obj)) (s : Shared) (σ : St) (H : Hp) (Q : Bool -> Hp -> Prop), Inv X pins σ H s -> t σ H Q -> wpAny (model X.prog X.w) X.A (isTrue e X.env whole) (TP X pins σ Q) X.xe s
theorem PW.pt {X : Cx} {e : Expr} {t : TT} (h : PW X e t) : PT X e t := h _
noncomputable def PA (X : Cx) (es : List Expr) (t : TA) : Prop :=
 ∀ (pos : Pos) (pins : List (Addr × Obj)) (s : Shared) (σ : St) (H : Hp) (Q : List V -> Hp -> Prop), Inv X pins σ H s -> t σ H Q -> wpAny (model X.prog X.w) X.A (spliced (backTo pos (starEach es X.env))) (AP X pins σ Q) X.xe s
noncomputable def PS (X : Cx) (st : Stmt) (t : TS) : Prop :=
 ∀ (pins : List (Addr × Obj)) (s : Shared) (σ : St) (H : Hp) (D : Ends), Inv X pins σ H s -> t D σ H -> wpAny (model X.prog X.w) X.A (exec st X.env) (SP X pins D) X.xe s
noncomputable def PSs (X : Cx) (st : List Stmt) (t : TS) : Prop :=
 ∀ (pins : List (Addr × Obj)) (s : Shared) (σ : St) (H : Hp) (D : Ends), Inv X pins σ H s -> t D σ H -> wpAny (model X.prog X.w) X.A (execs st X.env) (SP X pins D) X.xe s
theorem thn {α : Type} {t : Sem α} {Q Q' : α -> Shared -> Prop} {M : Model} {A : Around} {E : Value -> Shared -> Prop} {s : Shared} (h : wpAny M A t Q E s) (hQ : ∀ a s, Q a s -> Q' a s) : wpAny M A t Q' E s := wpAny_mono h hQ λ _ _ x => x
end L2
namespace L2
open PySem PySem.Spec PyProof.Rows
section
variable {X : Cx}
theorem bin {a b : Expr} {ta tb : TE} (ha : PE X a ta) (hb : PE X b tb) {pins : List (Addr × Obj)} {s : Shared} {σ : St} {H : Hp} {R : V -> V -> Hp -> Prop} (I : Inv X pins σ H s) (h : ta σ H λ x H1 => tb σ H1 λ y H2 => R x y H2)
  {α : Type} {Q : α -> Shared -> Prop} {f : Value -> Value -> Sem α}
  (hf : ∀ v u s2 x y H2, Inv X pins σ H2 s2 -> RelV x v -> RelV y u -> R x y H2 -> wpAny (model X.prog X.w) X.A (f v u) Q X.xe s2) :
  wpAny (model X.prog X.w) X.A (eval a X.env) (λ v s₁ => wpAny (model X.prog X.w) X.A (eval b X.env) (λ u s₂ => wpAny (model X.prog X.w) X.A (f v u) Q X.xe s₂) X.xe s₁) X.xe s := by
 refine thn (ha pins s σ H _ I h) λ v s1 ⟨x, H1, I1, r1, q1⟩ => ?_
 refine thn (hb pins s1 σ H1 _ I1 q1) λ u s2 ⟨y, H2, I2, r2, q2⟩ => ?_
 exact hf v u s2 x y H2 I2 r1 r2 q2
noncomputable def tVar (i : Nat) : TE := λ σ H Q => ∃ v, σ[i]? = some (some v) /\ Q v H
noncomputable def tC (v : V) : TE := λ _ H Q => Q v H
theorem q4a {i : Nat} {x : Str} {pos : Pos} (hN : X.N[i]? = some x) (hv : Vis X.env.scope x) (hd : (x == ("__debug__" : Str)) = false := by decide) (hcd : (x == ("__classdict__" : Str)) = false := by decide) : PE X (.Name x pos) (tVar i) := by
 intro pins s σ H Q I h
 obtain ⟨v, e, h⟩ := h
 obtain ⟨m, hn, hl⟩ := I.loc
 obtain ⟨u, r, l⟩ := hl i x v hN e hv
 have fin : EP X pins σ Q u s := ⟨v, H, I, r, h⟩
 rcases l with ⟨hk, hm⟩ | ⟨hk, c, hc, hcell⟩
 ·exact wpAny_Name (wpAny_loadName_local I.ok.kind hk hn hm fin) hd
 ·rcases hk with hk | hk
  ·exact wpAny_Name (wpAny_loadName_cell I.ok.kind hk hc hcell fin) hd
  ·exact wpAny_Name (wpAny_loadName_free I.ok.kind hk hc hcell fin hcd) hd
theorem z0v {i j pos} : PE X (.Constant (.int i) j pos) (tC (.int i)) := λ _ _ _ H _ I h => wpAny_Constant_int ⟨.int i, H, I.tok _, ⟨_, rfl⟩, h⟩
theorem z6z {b j pos} : PE X (.Constant (.bool b) j pos) (tC (.bl b)) := λ _ _ _ H _ I h => Constant_bool ⟨.bl b, H, I, rfl, h⟩
theorem z4V {j pos} : PE X (.Constant .none j pos) (tC .non) := λ _ _ _ H _ I h => Constant_none ⟨.non, H, I, rfl, h⟩
theorem z3E {x j pos} : PE X (.Constant (.str x) j pos) (tC (.str x)) := λ _ _ _ H _ I h => Calls.Constant_str ⟨.str x, H, I.tok _, ⟨_, rfl⟩, h⟩
noncomputable def Gl (X : Cx) (x : Str) : Prop := X.env.kindOf x = some .globalImplicit
theorem q8E {E : Value -> Shared -> Prop} {pins : List (Addr × Obj)} {s : Shared} {σ : St} {H : Hp} {x : Str} {u : Value} {pos : Pos} {Q : Value -> Shared -> Prop} (I : Inv X pins σ H s) (hg : Gl X x) (hm : X.mg x = some u) (h : Q u s)
  (hd : (x == ("__debug__" : Str)) = false := by decide) : wpAny (model X.prog X.w) X.A (eval (.Name x pos) X.env) Q E s :=
 Calls.Name_function_global I.ok.kind hg (Calls.loadGlobal_global (by rw [I.ok.glob]; exact I.mod.glob.keeps I.bk) hm h) hd
theorem q2q {E : Value -> Shared -> Prop} {pins : List (Addr × Obj)} {s : Shared} {σ : St} {H : Hp} {x : Str} {u : Value} {pos : Pos} {Q : Value -> Shared -> Prop} (I : Inv X pins σ H s) (hg : Gl X x) (hm : X.mg x = none) (hv : bootBuiltins x = some u) (h : Q u s)
  (hn : x ≠ "__name__" := by decide) (hd : (x == ("__debug__" : Str)) = false := by decide) : wpAny (model X.prog X.w) X.A (eval (.Name x pos) X.env) Q E s := by
 obtain ⟨mb, h1, h2⟩ := I.mod.blt
 exact Calls.Name_function_global I.ok.kind hg (Calls.loadGlobal_builtin (by rw [I.ok.glob]; exact I.mod.glob.keeps I.bk) hm (by rw [I.ok.blt]; exact h1.keeps I.bk) ((h2 x hn).trans hv) h) hd
theorem z2F {x : Str} {v : V} {u : Value} {pos : Pos} (hg : Gl X x) (hm : X.mg x = some u) (r : RelV v u) (hd : (x == ("__debug__" : Str)) = false := by decide) : PE X (.Name x pos) (tC v) :=
 λ _ _ _ H _ I h => q8E I hg hm ⟨v, H, I, r, h⟩ hd
theorem q5I {x : Str} {v : V} {u : Value} {pos : Pos} (hg : Gl X x) (hm : X.mg x = none) (hv : bootBuiltins x = some u) (r : RelV v u) (hn : x ≠ "__name__" := by decide) (hd : (x == ("__debug__" : Str)) = false := by decide) : PE X (.Name x pos) (tC v) :=
 λ _ _ _ H _ I h => q2q I hg hm hv ⟨v, H, I, r, h⟩ hn hd
variable {a b : Expr} {ta tb : TE} {pos : Pos}
variable {tA tB' : TT} {rest : List Expr}
noncomputable def tAnd (t u : TT) : TT := λ σ H Q => t σ H λ c H1 => if c = true then u σ H1 Q else Q false H1
noncomputable def tOr (t u : TT) : TT := λ σ H Q => t σ H λ c H1 => if c = true then Q true H1 else u σ H1 Q
noncomputable def tNot (t : TT) : TT := λ σ H Q => t σ H λ c H1 => Q (!c) H1
theorem z1z (ha : PT X a tA) : PW X (.BoolOp .And [a] pos) tA := by
 intro wh pins s σ H Q I h
 refine isTrue_and (thn (ha pins s σ H Q I h) λ c s1 e => ?_)
 cases c with
 | true => exact isTrue_and_nil e
 | false => exact e
theorem z4z (ha : PT X a tA) : PW X (.BoolOp .Or [a] pos) tA := by
 intro wh pins s σ H Q I h
 refine isTrue_or (thn (ha pins s σ H Q I h) λ c s1 e => ?_)
 cases c with
 | false => exact isTrue_or_nil e
 | true => exact e
theorem q7N (ha : PT X a tA) (hb : PW X (.BoolOp .And (b :: rest) pos) tB') : PW X (.BoolOp .And (a :: b :: rest) pos) (tAnd tA tB') := by
 intro wh pins s σ H Q I h
 refine isTrue_and (thn (ha pins s σ H _ I h) λ c s1 ⟨H1, I1, q1⟩ => ?_)
 cases c with
 | true => exact hb wh pins s1 σ H1 Q I1 q1
 | false => exact ⟨H1, I1, q1⟩
theorem z2x (ha : PT X a tA) (hb : PW X (.BoolOp .Or (b :: rest) pos) tB') : PW X (.BoolOp .Or (a :: b :: rest) pos) (tOr tA tB') := by
 intro wh pins s σ H Q I h
 refine isTrue_or (thn (ha pins s σ H _ I h) λ c s1 ⟨H1, I1, q1⟩ => ?_)
 cases c with
 | true => exact ⟨H1, I1, q1⟩
 | false => exact hb wh pins s1 σ H1 Q I1 q1
theorem z0M (ha : PT X a tA) : PT X (.UnaryOp .Not a pos) (tNot tA) := by
 intro pins s σ H Q I h
 exact isTrue_not (ha pins s σ H (λ c H1 => Q (!c) H1) I h)
theorem z0y {op} {t : TE} (h : PE X a t) : PE X (.BoolOp op [a] pos) t := λ pins s σ H Q I hw => BoolOp_one (h pins s σ H Q I hw)
end
end L2
namespace L2
open PySem PySem.Spec PyProof.Rows
noncomputable def SqL (K : PySem.W.Frag) (H : Hp) (a : Addr) (xs : List V) : Prop :=
 Rd H a (.lst xs) \/
  ∃ (o : Obj) (its : Array Value) (n : Nat), K.lookup a = some o /\ o.cls = .type "list" /\ o.dict = none /\ o.data = .seq its n /\ its.size <= sizeLine /\ Vals xs its.toList
noncomputable def SqT (K : PySem.W.Frag) (H : Hp) (a : Addr) (xs : List V) : Prop :=
 Rd H a (.tup xs) \/
  ∃ (o : Obj) (its : Array Value) (n : Nat), K.lookup a = some o /\ (o.cls = .type "tuple" /\ o.dict = none) /\ o.data = .seq its n /\ its.size <= sizeLine /\ Vals xs its.toList
noncomputable def absV : Value -> Option V
 | .none => some .non
 | .bool b => some (.bl b)
 | .int i _ => some (.int i)
 | .str x _ => some (.str x)
 | .bytes b _ => some (.byt b)
 | .float b _ => some (.flt b)
 | .ref a => some (.ref a)
 | .type n => some (.ty n)
 | _ => none
theorem RelV.abs {x : V} {u : Value} (r : RelV x u) : absV u = some x := by
 cases x with
 | non => cases r; rfl
 | bl _ => cases r; rfl
 | int _ => obtain ⟨t, rfl⟩ := r; rfl
 | str _ => obtain ⟨t, rfl⟩ := r; rfl
 | byt _ => obtain ⟨t, rfl⟩ := r; rfl
 | flt _ => obtain ⟨t, rfl⟩ := r; rfl
 | ref _ => cases r; rfl
 | ty _ => cases r; rfl
theorem RelV.inj {x y : V} {u : Value} (r : RelV x u) (q : RelV y u) : x = y := Option.some.inj (r.abs.symm.trans q.abs)
theorem Vals.inj {xs ys : List V} {us : List Value} (h : Vals xs us) : Vals ys us -> xs = ys := by
 induction h generalizing ys with
 | nil => intro t; cases t; rfl
 | cons r _ ih => intro t; cases t with | cons r' t' => rw [r.inj r', ih t']
section
variable {X : Cx} {pins : List (Addr × Obj)} {σ : St} {H : Hp} {s : Shared} {a : Addr} {xs ys : List V}
theorem SqL.of {K : PySem.W.Frag} (h : H a = some (.lst xs)) : SqL K H a xs := .inl (.inl h)
theorem SqT.of {K : PySem.W.Frag} (h : H a = some (.tup xs)) : SqT K H a xs := .inl (.inl h)
theorem Inv.list (I : Inv X pins σ H s) (h : SqL X.K H a xs) : ∃ its : List Value, Vals xs its /\ PlainL s.heap a its.toArray /\ xs.length <= sizeLine := by
 rcases h with h | ⟨o, its, n, hk, hc, hd, hs, hz, r⟩
 ·obtain ⟨z, its, n, r, e⟩ := h.ok I.hok
  exact ⟨its, r, ⟨_, n, e, rfl, rfl, rfl⟩, z⟩
 ·refine ⟨its.toList, r, ⟨o, n, I.kIn a o hk, hc, hd, by simpa using hs⟩, ?_⟩
  have e := r.length
  simp only [Array.length_toList] at e
  omega
theorem Inv.tuple (I : Inv X pins σ H s) (h : SqT X.K H a xs) : ∃ its : List Value, Vals xs its /\ IsTup s.heap a its.toArray /\ xs.length <= sizeLine := by
 rcases h with h | ⟨o, its, n, hk, hc, hs, hz, r⟩
 ·obtain ⟨z, its, r, p⟩ := h.ok I.hok
  exact ⟨its, r, p.tup, z⟩
 ·refine ⟨its.toList, r, ⟨o, I.kIn a o hk, hc.1, n, by simpa using hs⟩, ?_⟩
  have e := r.length
  simp only [Array.length_toList] at e
  omega
theorem Inv.list_inj (I : Inv X pins σ H s) (h : SqL X.K H a xs) (h' : SqL X.K H a ys) : xs = ys := by
 obtain ⟨its, r, ⟨o, n, e, _, _, d⟩, _⟩ := I.list h
 obtain ⟨its', r', ⟨o', n', e', _, _, d'⟩, _⟩ := I.list h'
 rw [e] at e'; cases e'
 rw [d] at d'
 injection d' with d1 _
 have : its = its' := by simpa using congrArg Array.toList d1
 subst this
 exact r.inj r'
theorem Inv.tuple_inj (I : Inv X pins σ H s) (h : SqT X.K H a xs) (h' : SqT X.K H a ys) : xs = ys := by
 obtain ⟨its, r, ⟨o, e, _, n, d⟩, _⟩ := I.tuple h
 obtain ⟨its', r', ⟨o', e', _, n', d'⟩, _⟩ := I.tuple h'
 rw [e] at e'; cases e'
 rw [d] at d'
 injection d' with d1 _
 have : its = its' := by simpa using congrArg Array.toList d1
 subst this
 exact r.inj r'
end
section
variable {X : Cx} {pins : List (Addr × Obj)} {σ : St} {H : Hp} {s : Shared} {E : Value -> Shared -> Prop}
end
section
variable {X : Cx} {st : Stmt} {rest : List Stmt} {t u : TS} {e : Expr} {te : TE} {pos : Pos}
noncomputable def z5n : TS := λ D σ H => D.nx σ H
noncomputable def tSeq (t u : TS) : TS := λ D σ H => t { D with nx := u D } σ H
theorem z1g : PSs X [] z5n := λ _ _ σ H _ I h => wpAny_execs_nil ⟨σ, H, I, h⟩
theorem q3m (h1 : PS X st t) (h2 : PSs X rest u) : PSs X (st :: rest) (tSeq t u) := by
 intro pins s σ H D I h
 refine wpAny_execs_cons (thn (h1 pins s σ H { D with nx := u D } I h) λ f s1 q => ?_)
 cases f with
 | next =>
  obtain ⟨σ', H', I', q⟩ := q
  exact h2 pins s1 σ' H' D I' q
 | ret v => exact q
 | brk => exact q
 | cont => exact q
theorem Inv.quiet {pins : List (Addr × Obj)} {σ : St} {H : Hp} {s : Shared} (I : Inv X pins σ H s) : interactive X.env = false := by simp [interactive, I.ok.kind]
noncomputable def z5Z (te : TE) : TS := λ D σ H => te σ H λ _ H1 => D.nx σ H1
theorem z2R (he : PE X e te) (hs : swapsWith e none pos.line X.env = pure false := by rfl) : PS X (.Expr e pos) (z5Z te) := by
 intro pins s σ H D I h
 exact wpAny_Expr_any (thn (he pins s σ H _ I h) λ v s1 ⟨x, H1, I1, r1, q1⟩ => ⟨σ, H1, I1, q1⟩) I.quiet hs
noncomputable def tRet (te : TE) : TS := λ D σ H => te σ H D.rt
theorem q6c (he : PE X e te) : PS X (.Return (some e) pos) (tRet te) := by
 intro pins s σ H D I h
 exact wpAny_Return_some (thn (he pins s σ H _ I h) λ v s1 ⟨x, H1, I1, r1, q1⟩ => ⟨x, σ, H1, I1, r1, q1⟩)
noncomputable def tIfS (c : TT) (t u : TS) : TS := λ D σ H => c σ H λ b H1 => if b = true then t D σ H1 else u D σ H1
theorem z3c {c : Expr} {a b : List Stmt} {tc : TT} (hc : PT X c tc) (ha : PSs X a t) (hb : PSs X b u) : PS X (.If c a b pos) (tIfS tc t u) := by
 intro pins s σ H D I h
 refine wpAny_If (thn (hc pins s σ H _ I h) λ d s1 ⟨H1, I1, q1⟩ => ?_)
 cases d with
 | true => exact ha pins s1 σ H1 D I1 q1
 | false => exact hb pins s1 σ H1 D I1 q1
noncomputable def z3o : TS := λ _ _ _ => False
theorem q1m {sts : List Stmt} : PSs X sts z3o := λ _ _ _ _ _ _ h => h.elim
end
noncomputable abbrev TG := V -> St -> Hp -> (St -> Hp -> Prop) -> Prop
noncomputable abbrev TGs := List V -> St -> Hp -> (St -> Hp -> Prop) -> Prop
noncomputable def PG (X : Cx) (target : Expr) (t : TG) : Prop :=
 ∀ (pins : List (Addr × Obj)) (s : Shared) (σ : St) (H : Hp) (v : V) (u : Value) (Q : St -> Hp -> Prop), Inv X pins σ H s -> RelV v u -> t v σ H Q ->
  wpAny (model X.prog X.w) X.A (assign target X.env u) (λ _ s' => ∃ σ' H', Inv X pins σ' H' s' /\ Q σ' H') X.xe s
noncomputable def PGs (X : Cx) (ts : List Expr) (t : TGs) : Prop :=
 ∀ (pins : List (Addr × Obj)) (s : Shared) (σ : St) (H : Hp) (vs : List V) (us : List Value) (Q : St -> Hp -> Prop), Inv X pins σ H s -> Vals vs us -> t vs σ H Q ->
  wpAny (model X.prog X.w) X.A (assignInOrder ((assignEach ts X.env).map (·.2)) us) (λ _ s' => ∃ σ' H', Inv X pins σ' H' s' /\ Q σ' H') X.xe s
noncomputable abbrev TSet := V -> V -> V -> Hp -> (Hp -> Prop) -> Prop
noncomputable def PSet (X : Cx) (t : TSet) : Prop :=
 ∀ (pins : List (Addr × Obj)) (s : Shared) (σ : St) (H : Hp) (o i v : V) (ov iv u : Value) (Q : Hp -> Prop), Inv X pins σ H s -> RelV o ov -> RelV i iv -> RelV v u -> t o i v H Q ->
  wpAny (model X.prog X.w) X.A (setItem ov iv u) (λ _ s' => ∃ H', Inv X pins σ H' s' /\ Q H') X.xe s
section
variable {X : Cx} {pos : Pos}
noncomputable def q8p (i : Nat) : TG := λ v σ H Q => Q (σ.set i (some v)) H
theorem q8G {i : Nat} {x : Str} (hN : X.N.Nodup) (hi : X.N[i]? = some x) (hx : Loc X.env.scope x) (hf : X.fn x = true \/ X.env.scope.names.lookup x = some .local := by first | exact .inl rfl | exact .inr rfl | assumption) : PG X (.Name x pos) (q8p i) := by
 intro pins s σ H v u Q I r h
 exact wpAny_assign_Name (q6k I hN hi hx r (λ s' I' => ⟨_, H, I', h⟩) hf)
noncomputable def gNil : TGs := λ vs σ H Q => vs = [] /\ Q σ H
noncomputable def z4t (t : TG) (u : TGs) : TGs := λ vs σ H Q => ∃ v r, vs = v :: r /\ t v σ H λ σ' H' => u r σ' H' Q
theorem z2C : PGs X [] gNil := by
 intro pins s σ H vs us Q I r h
 obtain ⟨e, h⟩ := h
 subst e
 cases r
 exact assignInOrder_nil ⟨σ, H, I, h⟩
theorem q9F {e : Expr} {es : List Expr} {t : TG} {u : TGs} (h1 : PG X e t) (h2 : PGs X es u)
  (hs : (assignEach (e :: es) X.env).map (·.2) = assign e X.env :: (assignEach es X.env).map (·.2) := by rfl) : PGs X (e :: es) (z4t t u) := by
 intro pins s σ H vs us Q I r h
 obtain ⟨v, vr, e1, h⟩ := h
 subst e1
 cases r with
 | cons r rr =>
  rw [hs]
  refine assignInOrder_cons (thn (h1 pins s σ H _ _ _ I r h) λ _ s1 ⟨σ1, H1, I1, q1⟩ => ?_)
  exact h2 pins s1 σ1 H1 _ _ Q I1 rr q1
noncomputable def gTup (K : PySem.W.Frag) (n : Nat) (t : TGs) : TG := λ v σ H Q => ∃ a xs, v = .ref a /\ SqT K H a xs /\ xs.length = n /\ t xs σ H Q
theorem z4f {es : List Expr} {k : Nat} {t : TGs} {n : Nat} (hc : X.calm = true) (h : PGs X es t)
  (hn : (assignEach es X.env).length = n := by rfl) (hst : (assignEach es X.env).findIdx? (·.1) = none := by rfl) : PG X (.Tuple es k pos) (gTup X.K n t) := by
 intro pins s σ H v u Q I r hw
 obtain ⟨a, xs, e1, hq, hl, hw⟩ := hw
 subst e1
 cases r
 obtain ⟨its, rv, ht, hz⟩ := I.tuple hq
 refine assign_Tuple_tuple (I.ok.hd hc) ht (by simp [hn, ← hl, rv.length]) hst λ h' hx => ?_
 have I1 : Inv X pins σ H { s with heap := h' } := I.kept (t' := s.toks) λ b o e => hx b o (Nat.ne_of_lt (Heap.lt_size e)) e
 exact h pins _ σ H xs _ Q I1 (by simpa using rv) hw
noncomputable def gSub (to ti : TE) (t : TSet) : TG := λ v σ H Q => to σ H λ o H1 => ti σ H1 λ i H2 => t o i v H2 λ H3 => Q σ H3
theorem z3q {o i : Expr} {to ti : TE} {t : TSet} (ho : PE X o to) (hi : PE X i ti) (hs : PSet X t)
  (ha : ∀ v, assign (.Subscript o i pos) X.env v = (do
   let ov ← holding [v] (eval o X.env)
   let iv ← holding [v, ov] (eval i X.env)
   standAt pos
   holding [v, ov, iv] (setItem ov iv v)
   release [v, ov, iv] []) := by intro _; rfl) : PG X (.Subscript o i pos) (gSub to ti t) := by
 intro pins s σ H v u Q I r h
 rw [ha]
 refine wpAny_bind (wpAny_holding (thn (ho pins s σ H _ I h) λ ov s1 ⟨x, H1, I1, r1, q1⟩ => ?_))
 refine wpAny_bind (wpAny_holding (thn (hi pins s1 σ H1 _ I1 q1) λ iv s2 ⟨y, H2, I2, r2, q2⟩ => ?_))
 refine wpAny_bind (wpAny_standAt (wpAny_bind (wpAny_holding (thn (hs pins s2 σ H2 x y v ov iv u _ I2 r1 r2 r q2) λ _ s3 ⟨H3, I3, q3⟩ => ?_))))
 exact wpAny_release ⟨σ, H3, I3, q3⟩
noncomputable def tAsg (te : TE) (g : TG) : TS := λ D σ H => te σ H λ x H1 => g x σ H1 D.nx
theorem z4Q {tg e : Expr} {te : TE} {g : TG} (he : PE X e te) (hg : PG X tg g) (hs : swapsWithSole [tg] e pos.line X.env = pure false := by rfl) (hw : swappedStores [tg] e X.env = pure none := by rfl)
  (h1 : (assignEach [tg] X.env).map (·.2) = [assign tg X.env] := by rfl) : PS X (.Assign [tg] e pos) (tAsg te g) := by
 intro pins s σ H D I h
 refine wpAny_Assign_stores (thn (he pins s σ H _ I h) λ v s1 ⟨x, H1, I1, r1, q1⟩ => ?_) hs hw
 rw [h1]
 exact thn (hg pins s1 σ H1 x v _ I1 r1 q1) λ _ s2 q => q
theorem q8h {i : Nat} {x : Str} {e : Expr} {te : TE} {pos' : Pos} (hN : X.N.Nodup) (hi : X.N[i]? = some x) (hx : Loc X.env.scope x) (he : PE X e te) (hs : swapsWith e (some (.Name x pos')) pos.line X.env = pure false := by rfl) (hf : X.fn x = true \/ X.env.scope.names.lookup x = some .local := by first | exact .inl rfl | exact .inr rfl | assumption) :
  PS X (.Assign [.Name x pos'] e pos) (tAsg te (q8p i)) := by
 intro pins s σ H D I h
 refine wpAny_Assign_Name (thn (he pins s σ H _ I h) λ v s1 ⟨y, H1, I1, r1, q1⟩ => ?_) hs
 exact q6k I1 hN hi hx r1 (λ s2 I2 => ⟨_, H1, I2, q1⟩) hf
end
section
variable {X : Cx} {pos : Pos}
noncomputable def z3A (c : TT) (tb : TS) : TS := λ D σ H => ∃ W : Nat -> St -> Hp -> Prop, (∃ m, W m σ H) /\ ∀ m σ H, W m σ H ->
 c σ H λ b H1 => if b = true then ∃ N : St -> Hp -> Prop, (∀ σ' H', N σ' H' -> ∃ m', m' < m /\ W m' σ' H') /\ tb { D with nx := N, ct := N, bk := D.nx } σ H1 else D.nx σ H1
theorem z0n {c : Expr} {body : List Stmt} {tc : TT} {tb : TS} (hp : PassesOwn (model X.prog X.w) X.A X.env X.xe) (hc : PT X c tc) (hb : PSs X body tb) : PS X (.While c body [] pos) (z3A tc tb) := by
 intro pins s σ H D I h
 obtain ⟨W, ⟨m0, w0⟩, turn⟩ := h
 refine wpAny_While (codeAny_whileLoop (λ n s' => ∃ σ' H', Inv X pins σ' H' s' /\ W n σ' H') ?_ m0 ⟨σ, H, I, w0⟩)
 rintro n s1 ⟨σ1, H1, I1, w1⟩
 refine wpAny_passesOwn hp (thn (hc pins s1 σ1 H1 _ I1 (turn n σ1 H1 w1)) λ b s2 ⟨H2, I2, q2⟩ => ?_)
 cases b with
 | true =>
  obtain ⟨N, hN, q2⟩ := q2
  rw [if_pos rfl]
  refine wpAny_passesOwn hp (thn (hb pins s2 σ1 H2 _ I2 q2) λ f s3 q3 => ?_)
  cases f with
  | next =>
   obtain ⟨σ3, H3, I3, n3⟩ := q3
   obtain ⟨m', hm, w3⟩ := hN σ3 H3 n3
   exact ⟨m', hm, σ3, H3, I3, w3⟩
  | cont =>
   obtain ⟨σ3, H3, I3, n3⟩ := q3
   obtain ⟨m', hm, w3⟩ := hN σ3 H3 n3
   exact ⟨m', hm, σ3, H3, I3, w3⟩
  | brk => exact q3
  | ret v => exact q3
 | false =>
  rw [if_neg Bool.false_ne_true]
  exact wpAny_execs_nil ⟨σ1, H2, I2, q2⟩
end
structure It where
 go : Nat -> Hp -> Prop
 yld : Nat -> Hp -> V -> Hp -> Prop
 stop : Nat -> Hp -> Prop
noncomputable def FpOk (X : Cx) (pins : List (Addr × Obj)) (H : Hp) (b : Addr) : Prop :=
 H b = none /\ b ≠ X.env.locals /\ b ∉ X.fs /\ (b ∈ X.ex \/ X.s₀.heap.objs.size <= b) /\ (∀ x c, X.env.cells.lookup x = some c -> c ≠ b) /\ ∀ p ∈ X.pn ++ pins, p.1 ≠ b
theorem Inv.fpOk {X : Cx} {pins : List (Addr × Obj)} {σ : St} {H H' : Hp} {s : Shared} {b : Addr} (I : Inv X pins σ H s) (hb : s.heap.objs.size <= b) (hn : H' b = none) : FpOk X pins H' b := by
 refine ⟨hn, Nat.ne_of_gt (Nat.lt_of_lt_of_le I.lt hb), I.nofs hb, .inr (Nat.le_trans I.sz hb), λ x c e z => ?_, λ p hp z => ?_⟩
 ·obtain ⟨v, q⟩ := I.cell x c e
  exact absurd (Nat.lt_of_lt_of_le q.lt (by rw [z]; exact hb)) (Nat.lt_irrefl _)
 ·exact absurd (Nat.lt_of_lt_of_le (Heap.lt_size (I.pin p hp).1) (by rw [z]; exact hb)) (Nat.lt_irrefl _)
structure Turn (P : Program) (w : World) (K : PySem.W.Frag) (tg : Expr) (J : It) (fp : List Addr) (it : Addr) (tn : Nat -> Heap -> Prop) : Prop where
 mem : it ∈ fp
 obj : ∀ i h, tn i h -> ∀ b ∈ fp, ∃ o, h.get? b = some o /\ ∀ v, o.data ≠ .cell v
 keep : ∀ i h h', tn i h -> (∀ b ∈ fp, ∀ o, h.get? b = some o -> h'.get? b = some o) -> tn i h'
 item : ∀ (X : Cx), X.prog = P -> X.w = w -> X.K = K -> X.calm = true -> ∀ (i : Nat) (pins : List (Addr × Obj)) (s : Shared) (σ : St) (H : Hp) (E : Value -> Shared -> Prop), Inv X pins σ H s -> (∀ b ∈ fp, FpOk X pins H b) -> tn i s.heap -> J.go i H ->
  wpAny (model P w) X.A (pyNext (.ref it)) (λ r s1 => ∃ u, r = some u /\
   wpAny (model P w) X.A (letOwnedTupleGo tg (.ref it) u) (λ _ s2 => ∃ x H', Inv X pins σ H' s2 /\ RelV x u /\ J.yld i H x H' /\ tn (i + 1) s2.heap /\ ∀ b ∈ fp, H' b = none) E s1) E s
 done : ∀ (X : Cx), X.prog = P -> X.w = w -> X.K = K -> X.calm = true -> ∀ (i : Nat) (pins : List (Addr × Obj)) (s : Shared) (σ : St) (H : Hp) (E : Value -> Shared -> Prop), Inv X pins σ H s -> (∀ b ∈ fp, FpOk X pins H b) -> tn i s.heap -> J.stop i H ->
  wpAny (model P w) X.A (pyNext (.ref it)) (λ r s1 => r = none /\ Inv X pins σ H s1) E s
 self : ∀ (A : Around) (i : Nat) (s : Shared) (Q : Value -> Shared -> Prop) (E : Value -> Shared -> Prop), tn i s.heap -> Q (.ref it) s -> wpAny (model P w) A (pyIter (.ref it)) Q E s
noncomputable abbrev TI := St -> Hp -> (It -> Hp -> Prop) -> Prop
noncomputable def PIE (X : Cx) (pins : List (Addr × Obj)) (σ : St) (tg : Expr) (R : It -> Hp -> Prop) (itv : Value) (s2 : Shared) : Prop :=
 ∃ (it : Addr) (fp : List Addr) (tn : Nat -> Heap -> Prop) (J : It) (H' : Hp), itv = .ref it /\ Inv X pins σ H' s2 /\ Turn X.prog X.w X.K tg J fp it tn /\ tn 0 s2.heap /\ (∀ b ∈ fp, FpOk X pins H' b) /\ R J H'
noncomputable def PI (X : Cx) (tg iter : Expr) (wi : TI) : Prop :=
 ∀ (pins : List (Addr × Obj)) (s : Shared) (σ : St) (H : Hp) (R : It -> Hp -> Prop), Inv X pins σ H s -> wi σ H R ->
  wpAny (model X.prog X.w) X.A (eval iter X.env) (λ v s1 => wpAny (model X.prog X.w) X.A (pyIter v) (PIE X pins σ tg R) X.xe s1) X.xe s
theorem q9H {M : Model} {A : Around} {E : Value -> Shared -> Prop} {s : Shared} {tg : Expr} {it : Addr} {u : Value} {o : Obj} {n : String} {vs : Array Value} {Q : Unit -> Shared -> Prop} (ho : s.heap.get? it = some o) (hc : o.cls = .type n) (hd : o.data = .fields vs)
    (hn : ["enumerate", "zip", "dict_itemiterator", "dict_reverseitemiterator", "odict_iterator", "itertools.zip_longest", "itertools.pairwise"].contains n = false) (hQ : Q () s) : wpAny M A (letOwnedTupleGo tg (.ref it) u) Q E s := by
  unfold letOwnedTupleGo
  cases tg <;> first
    | exact wpAny_pure hQ
    | (cases u <;> first
        | exact wpAny_pure hQ
        | (refine wpAny_bind (wpAny_load ho ?_)
           rw [hc, hd]
           show wpAny M A (if (["enumerate", "zip", "dict_itemiterator", "dict_reverseitemiterator", "odict_iterator", "itertools.zip_longest", "itertools.pairwise"].contains n && vs[0]? == some (rawInt _)) = true then _ else _) Q E s
           rw [if_neg (by intro h; rw [hn, Bool.false_and] at h; cases h)]
           exact wpAny_pure hQ))
noncomputable def Itl (K : PySem.W.Frag) (a : Addr) : It :=
 ⟨λ i H => ∃ xs x, SqL K H a xs /\ xs[i]? = some x, λ i H x H' => H' = H /\ ∀ xs, SqL K H a xs -> xs[i]? = some x, λ i H => ∃ xs, SqL K H a xs /\ xs.length <= i⟩
noncomputable def Itt (K : PySem.W.Frag) (a : Addr) : It :=
 ⟨λ i H => ∃ xs x, SqT K H a xs /\ xs[i]? = some x, λ i H x H' => H' = H /\ ∀ xs, SqT K H a xs -> xs[i]? = some x, λ i H => ∃ xs, SqT K H a xs /\ xs.length <= i⟩
noncomputable def Itr (lo : Int) (n : Nat) : It := ⟨λ i _ => i < n, λ i H x H' => H' = H /\ x = .int (lo + i), λ i _ => n <= i⟩
theorem q8U {P : Program} {w : World} {K : PySem.W.Frag} {tg : Expr} (a it : Addr) : Turn P w K tg (Itl K a) [it] it (λ i h => h.IsListIter it a i) where
 mem := by simp
 obj := λ i h st b hb => by
  have e : b = it := by simpa using hb
  subst e
  obtain ⟨o, e, c, d⟩ := st
  exact ⟨o, e, λ v z => by rw [d] at z; cases z⟩
 keep := λ i h h' st k => st.at λ o e => k it (by simp) o e
 item := by
  intro X hP hw hK hc i pins s σ H E I hf st hg
  subst hP hw hK
  obtain ⟨xs, x, hq, hx⟩ := hg
  obtain ⟨its, rv, p, hz⟩ := I.list hq
  obtain ⟨u, hu, ru⟩ := rv.get hx
  obtain ⟨f0, f1, f2, f3, f4, f5⟩ := hf it (by simp)
  refine wpAny_pyNext_list_item st p.isList (x := u) (by simpa using hu) λ h' st' sb => ?_
  have I1 : Inv X pins σ H { s with heap := h' } := I.turned (t' := s.toks) (λ b o hb e => (sb.2 b hb).trans e) f0 f1 f3 f4 f5
  obtain ⟨o, e, c, d⟩ := id st'
  exact ⟨u, rfl, q9H (s := { s with heap := h' }) e c d (by decide) ⟨x, H, I1, ru, ⟨rfl, λ ys hy => by rw [I.list_inj hy hq]; exact hx⟩, st', λ b hb => (hf b hb).1⟩⟩
 done := by
  intro X hP hw hK hc i pins s σ H E I hf st hg
  subst hP hw hK
  obtain ⟨xs, hq, hx⟩ := hg
  obtain ⟨its, rv, p, hz⟩ := I.list hq
  obtain ⟨f0, f1, f2, f3, f4, f5⟩ := hf it (by simp)
  have hl := rv.length
  exact wpAny_pyNext_list_end (I.ok.hd hc) st p.isList (by simp; omega) λ h' eb => ⟨rfl, I.turned (t' := s.toks) (λ b o hb e => eb b o hb e) f0 f1 f3 f4 f5⟩
 self := λ _ _ _ _ _ st h => wpAny_pyIter_listiter st h
theorem q7e {P : Program} {w : World} {K : PySem.W.Frag} {tg : Expr} (a it : Addr) : Turn P w K tg (Itt K a) [it] it (λ i h => h.IsTupleIter it a i) where
 mem := by simp
 obj := λ i h st b hb => by
  have e : b = it := by simpa using hb
  subst e
  obtain ⟨o, e, c, d⟩ := st
  exact ⟨o, e, λ v z => by rw [d] at z; cases z⟩
 keep := λ i h h' st k => st.at λ o e => k it (by simp) o e
 item := by
  intro X hP hw hK hc i pins s σ H E I hf st hg
  subst hP hw hK
  obtain ⟨xs, x, hq, hx⟩ := hg
  obtain ⟨its, rv, p, hz⟩ := I.tuple hq
  obtain ⟨u, hu, ru⟩ := rv.get hx
  obtain ⟨f0, f1, f2, f3, f4, f5⟩ := hf it (by simp)
  refine wpAny_pyNext_tuple_item st (show s.heap.IsTuple a its.toArray from p) (x := u) (by simpa using hu) λ h' st' sb => ?_
  have I1 : Inv X pins σ H { s with heap := h' } := I.turned (t' := s.toks) (λ b o hb e => (sb.2 b hb).trans e) f0 f1 f3 f4 f5
  obtain ⟨o, e, c, d⟩ := id st'
  exact ⟨u, rfl, q9H (s := { s with heap := h' }) e c d (by decide) ⟨x, H, I1, ru, ⟨rfl, λ ys hy => by rw [I.tuple_inj hy hq]; exact hx⟩, st', λ b hb => (hf b hb).1⟩⟩
 done := by
  intro X hP hw hK hc i pins s σ H E I hf st hg
  subst hP hw hK
  obtain ⟨xs, hq, hx⟩ := hg
  obtain ⟨its, rv, p, hz⟩ := I.tuple hq
  obtain ⟨f0, f1, f2, f3, f4, f5⟩ := hf it (by simp)
  have hl := rv.length
  exact wpAny_pyNext_tuple_end (I.ok.hd hc) st (show s.heap.IsTuple a its.toArray from p) (by simp; omega) λ h' eb => ⟨rfl, I.turned (t' := s.toks) (λ b o hb e => eb b o hb e) f0 f1 f3 f4 f5⟩
 self := λ _ _ _ _ _ st h => wpAny_pyIter_tupleiter st h
theorem q6T {P : Program} {w : World} {K : PySem.W.Frag} {tg : Expr} (it : Addr) (lo : Int) (n : Nat) : Turn P w K tg (Itr lo n) [it] it (λ i h => IsRangeIter h it (lo + (i : Nat) * 1) ((n : Int) - (i : Nat)) 1) where
 mem := by simp
 obj := λ i h st b hb => by
  have e : b = it := by simpa using hb
  subst e
  exact ⟨_, st, λ v z => by
   have z' : Data.fields _ = Data.cell v := z
   cases z'⟩
 keep := λ i h h' st k => k it (by simp) _ st
 item := by
  intro X hP hw hK hc i pins s σ H E I hf st hg
  subst hP hw hK
  obtain ⟨f0, f1, f2, f3, f4, f5⟩ := hf it (by simp)
  have W := Walks.range (prog := X.prog) (w := X.w) (I.ok.hd hc) it lo 1 n
  refine W.item i s _ _ hg st λ v h' tk hv st' kk => ?_
  obtain ⟨t, rfl⟩ := hv
  have I1 : Inv X pins σ H { s with heap := h', toks := tk } := I.turned (λ b o hb e => kk b o (by simpa using hb) e) f0 f1 f3 f4 f5
  refine ⟨_, rfl, q9H (s := { s with heap := h', toks := tk }) (n := "range_iterator") st' rfl rfl (by decide) ⟨.int (lo + i), H, I1, ⟨t, ?_⟩, ⟨rfl, rfl⟩, st', λ b hb => (hf b hb).1⟩⟩
  rw [Int.mul_one]
 done := by
  intro X hP hw hK hc i pins s σ H E I hf st hg
  subst hP hw hK
  obtain ⟨f0, f1, f2, f3, f4, f5⟩ := hf it (by simp)
  exact wpAny_pyNext_range_end (I.ok.hd hc) st (by have : n <= i := hg; omega) λ h' eb => ⟨rfl, I.turned (t' := s.toks) (λ b o hb e => eb b o hb e) f0 f1 f3 f4 f5⟩
 self := λ _ _ _ _ _ st h => wpAny_pyIter_rangeiter st h
end L2
namespace L2
open PySem PySem.Spec PyProof.Rows
section
variable {X : Cx} {tg : Expr}
noncomputable def z6f (K : PySem.W.Frag) (tl : TE) : TI := λ σ H R => tl σ H λ x H1 => ∃ a, x = .ref a /\ (∃ xs, SqL K H1 a xs) /\ R (Itl K a) H1
noncomputable def iTup (K : PySem.W.Frag) (tl : TE) : TI := λ σ H R => tl σ H λ x H1 => ∃ a, x = .ref a /\ (∃ xs, SqT K H1 a xs) /\ R (Itt K a) H1
theorem q5K {l : Expr} {tl : TE} (hl : PE X l tl) : PI X tg l (z6f X.K tl) := by
 intro pins s σ H R I h
 refine thn (hl pins s σ H _ I h) λ v s1 ⟨x, H1, I1, r1, q1⟩ => ?_
 obtain ⟨a, e, ⟨xs, hq⟩, q⟩ := q1
 subst e
 cases r1
 obtain ⟨its, rv, p, hz⟩ := I1.list hq
 refine wpAny_pyIter_list p.isList ?_
 refine ⟨s1.heap.objs.size, [s1.heap.objs.size], _, _, H1, rfl, I1.kept (t' := s1.toks) λ b o e => Heap.get?_push_of_some _ e, q8U a _, ⟨_, Heap.get?_push_size _ rfl, rfl, rfl⟩, λ b hb => ?_, q⟩
 have e : b = s1.heap.objs.size := by simpa using hb
 subst e
 exact I1.fpOk (Nat.le_refl _) (I1.hok.fresh (Nat.le_refl _))
theorem z4q {l : Expr} {tl : TE} (hl : PE X l tl) : PI X tg l (iTup X.K tl) := by
 intro pins s σ H R I h
 refine thn (hl pins s σ H _ I h) λ v s1 ⟨x, H1, I1, r1, q1⟩ => ?_
 obtain ⟨a, e, ⟨xs, hq⟩, q⟩ := q1
 subst e
 cases r1
 obtain ⟨its, rv, p, hz⟩ := I1.tuple hq
 refine wpAny_pyIter_tuple (show s1.heap.IsTuple a its.toArray from p) ?_
 refine ⟨s1.heap.objs.size, [s1.heap.objs.size], _, _, H1, rfl, I1.kept (t' := s1.toks) λ b o e => Heap.get?_push_of_some _ e, q7e a _, ⟨_, Heap.get?_push_size _ rfl, rfl, rfl⟩, λ b hb => ?_, q⟩
 have e : b = s1.heap.objs.size := by simpa using hb
 subst e
 exact I1.fpOk (Nat.le_refl _) (I1.hok.fresh (Nat.le_refl _))
theorem q6b {pins : List (Addr × Obj)} {σ : St} {H : Hp} {s : Shared} {R : It -> Hp -> Prop} {E : Value -> Shared -> Prop} {lo hi : Int} {t u v : Tok} {tk : Nat} (I : Inv X pins σ H s) (h1 : -(2 ^ 62) <= lo) (h2 : lo < 2 ^ 62) (h3 : -(2 ^ 62) <= hi) (h4 : hi < 2 ^ 62)
  (q : R (Itr lo (hi - lo).toNat) H) : wpAny (model X.prog X.w) X.A (pyIter (.ref s.heap.objs.size)) (PIE X pins σ tg R) E { s with heap := s.heap.push { cls := .type "range", data := .fields #[.int lo t, .int hi u, .int 1 v] }, toks := tk } := by
 refine wpAny_pyIter_range (IsRange.new ..) (small_one h1 h2 h3 h4) ?_
 have I1 : Inv X pins σ H { s with heap := s.heap.push { cls := .type "range", data := .fields #[.int lo t, .int hi u, .int 1 v] }, toks := tk } := I.kept λ b o e => Heap.get?_push_of_some _ e
 refine ⟨(s.heap.push { cls := .type "range", data := .fields #[.int lo t, .int hi u, .int 1 v] }).objs.size, [(s.heap.push { cls := .type "range", data := .fields #[.int lo t, .int hi u, .int 1 v] }).objs.size], _, _, H, rfl,
  I1.kept (t' := tk) λ b o e => Heap.get?_push_of_some _ e, q6T _ lo (hi - lo).toNat, ?_, λ b hb => ?_, q⟩
 ·have e1 : lo + ((0 : Nat) : Int) * 1 = lo := by simp
  have e2 : (((hi - lo).toNat : Nat) : Int) - ((0 : Nat) : Int) = Builtin.Range.rangeSize lo hi 1 := by rw [rangeSize_one]; split <;> omega
  show IsRangeIter _ _ (lo + ((0 : Nat) : Int) * 1) ((((hi - lo).toNat : Nat) : Int) - ((0 : Nat) : Int)) 1
  rw [e1, e2]
  exact Heap.get?_push_size _ rfl
 ·have e : b = (s.heap.push { cls := .type "range", data := .fields #[.int lo t, .int hi u, .int 1 v] }).objs.size := by simpa using hb
  subst e
  exact I1.fpOk (Nat.le_refl _) (I1.hok.fresh (Nat.le_refl _))
noncomputable def z5u (ta : TA) : TI := λ σ H R => ta σ H λ vs H1 => ∃ j : Int, vs = [.int j] /\ -(2 ^ 62) <= j /\ j < 2 ^ 62 /\ R (Itr 0 j.toNat) H1
noncomputable def z6i (ta : TA) : TI := λ σ H R => ta σ H λ vs H1 => ∃ i j : Int, vs = [.int i, .int j] /\ (-(2 ^ 62) <= i /\ i < 2 ^ 62 /\ -(2 ^ 62) <= j /\ j < 2 ^ 62) /\ R (Itr i (j - i).toNat) H1
theorem q7w {a : Expr} {ta : TA} {p pos : Pos} (hg : Gl X "range") (hm : X.mg "range" = none) (ha : PA X [a] ta) (hs : starEach [a] X.env = [(false, eval a X.env)] := by rfl) : PI X tg (.Call (.Name "range" p) [a] [] pos) (z5u ta) := by
 intro pins s σ H R I h
 refine Call_ (q2q I hg hm boot_range (PyProof.Rows.callWith_type1 (thn (ha pos pins s σ H _ I h) λ us s1 ⟨vs, H1, I1, r1, q1⟩ => ?_) hs rfl))
 obtain ⟨j, e, q1, q2, q⟩ := q1
 subst e
 cases r1 with
 | cons r rr =>
  cases rr
  obtain ⟨t, rfl⟩ := r
  exact call_range_1 (q6b I1 (by omega) (by omega) q1 q2 (by simpa using q))
theorem q8R {a b : Expr} {ta : TA} {p pos : Pos} (hg : Gl X "range") (hm : X.mg "range" = none) (ha : PA X [a, b] ta) (hs : starEach [a, b] X.env = [(false, eval a X.env), (false, eval b X.env)] := by rfl) (hs2 : starEach [b] X.env = [(false, eval b X.env)] := by rfl) :
  PI X tg (.Call (.Name "range" p) [a, b] [] pos) (z6i ta) := by
 intro pins s σ H R I h
 refine Call_ (q2q I hg hm boot_range (PyProof.Rows.callWith_type1 (thn (ha pos pins s σ H _ I h) λ us s1 ⟨vs, H1, I1, r1, q1⟩ => ?_) (by rw [hs, hs2]) (by rw [hs2]; rfl)))
 obtain ⟨i, j, e, ⟨q1, q2, q3, q4⟩, q⟩ := q1
 subst e
 cases r1 with
 | cons r rr =>
  cases rr with
  | cons r' rr =>
   cases rr
   obtain ⟨t, rfl⟩ := r
   obtain ⟨t', rfl⟩ := r'
   exact call_range_2 (q6b I1 q1 q2 q3 q4 q)
noncomputable def tFor (wi : TI) (g : TG) (tb : TS) : TS := λ D σ H => wi σ H λ J H1 => ∃ W : Nat -> Nat -> St -> Hp -> Prop, (∃ m, W 0 m σ H1) /\ ∀ i m σ H, W i m σ H ->
 (J.stop i H /\ D.nx σ H) \/ (J.go i H /\ ∃ N : St -> Hp -> Prop, (∀ σ' H', N σ' H' -> ∃ m', m' < m /\ W (i + 1) m' σ' H') /\ ∀ x H', J.yld i H x H' -> g x σ H' λ σ2 H2 => tb { D with nx := N, ct := N, bk := D.nx } σ2 H2)
noncomputable def q5g (fp : List Addr) (h : Heap) : List (Addr × Obj) := fp.filterMap λ b => (h.get? b).map λ o => (b, o)
theorem q2g {fp : List Addr} {h : Heap} {b : Addr} {o : Obj} (hb : b ∈ fp) (e : h.get? b = some o) : (b, o) ∈ q5g fp h := List.mem_filterMap.mpr ⟨b, hb, by rw [e]; rfl⟩
theorem q8w {fp : List Addr} {h : Heap} {p : Addr × Obj} (hp : p ∈ q5g fp h) : p.1 ∈ fp /\ h.get? p.1 = some p.2 := by
 obtain ⟨b, hb, e⟩ := List.mem_filterMap.mp hp
 cases q : h.get? b with
 | none => rw [q] at e; cases e
 | some o =>
  rw [q] at e
  have e' : (b, o) = p := Option.some.inj e
  subst e'
  exact ⟨hb, q⟩
theorem Inv.pinned {pins : List (Addr × Obj)} {σ : St} {H : Hp} {s : Shared} {fp : List Addr} (I : Inv X pins σ H s) (hf : ∀ b ∈ fp, FpOk X pins H b) (ho : ∀ b ∈ fp, ∃ o, s.heap.get? b = some o /\ ∀ v, o.data ≠ .cell v) : Inv X (pins ++ q5g fp s.heap) σ H s :=
 I.pins_of λ p hp => (List.mem_append.mp hp).elim (λ z => I.pin p (List.mem_append_right _ z)) λ z => by
  obtain ⟨hb, e⟩ := q8w z
  obtain ⟨f0, f1, f2, _⟩ := hf p.1 hb
  obtain ⟨o, e', d⟩ := ho p.1 hb
  rw [e] at e'; cases e'
  exact ⟨e, f0, f1, f2, d⟩
theorem Inv.unpinned {pins pl : List (Addr × Obj)} {σ : St} {H : Hp} {s : Shared} (I : Inv X (pins ++ pl) σ H s) : Inv X pins σ H s := I.pins_of λ p hp => I.pin p (List.mem_append_right _ (List.mem_append_left _ hp))
theorem z0G {iter : Expr} {body : List Stmt} {wi : TI} {g : TG} {tb : TS} {pos : Pos} (hp : PassesOwn (model X.prog X.w) X.A X.env X.xe) (hc : X.calm = true) (hi : PI X tg iter wi) (hg : PG X tg g) (hb : PSs X body tb)
  (hs : ∀ x, foldedSetIterable iter X.env x = pure x := by intro _; rfl) : PS X (.For tg iter body [] pos) (tFor wi g tb) := by
 intro pins s σ H D I h
 refine wpAny_For (thn (hi pins s σ H _ I h) λ v s1 h1 => thn h1 λ itv s2 h2 => ?_) hs
 obtain ⟨it, fp, tn, J, H2, e, I2, T, st2, f2, W, ⟨m0, w0⟩, turn⟩ := h2
 subst e
 have stat : ∀ {H' : Hp}, (∀ b ∈ fp, H' b = none) -> ∀ b ∈ fp, FpOk X pins H' b := λ hn b hb => ⟨hn b hb, (f2 b hb).2⟩
 refine codeAny_forLoop_any (λ n s' => ∃ i σ' H', Inv X pins σ' H' s' /\ tn i s'.heap /\ (∀ b ∈ fp, H' b = none) /\ W i n σ' H') ?_ m0 ⟨0, σ, H2, I2, st2, λ b hb => (f2 b hb).1, w0⟩
 rintro n s3 ⟨i, σ3, H3, I3, st3, fr3, w3⟩
 rcases turn i n σ3 H3 w3 with ⟨stop, qn⟩ | ⟨go, N, hN, step⟩
 ·refine wpAny_passesOwn hp (thn (T.done X rfl rfl rfl hc i pins s3 σ3 H3 X.xe I3 (stat fr3) st3 stop) λ r s4 ⟨hr, I4⟩ => ?_)
  subst hr
  exact wpAny_execs_nil ⟨σ3, H3, I4, qn⟩
 ·refine wpAny_passesOwn hp (thn (T.item X rfl rfl rfl hc i pins s3 σ3 H3 X.xe I3 (stat fr3) st3 go) λ r s4 ⟨u, hr, h4⟩ => ?_)
  subst hr
  refine wpAny_passesOwn hp (thn h4 λ _ s5 ⟨x, H5, I5, r5, y5, st5, fr5⟩ => ?_)
  have I5' := I5.pinned (stat fr5) (T.obj _ _ st5)
  refine wpAny_passesOwn hp (thn (hg _ s5 σ3 H5 x u _ I5' r5 (step x H5 y5)) λ _ s6 ⟨σ6, H6, I6, q6⟩ => ?_)
  refine wpAny_passesOwn hp (thn (hb _ s6 σ6 H6 _ I6 q6) λ f s7 q7 => ?_)
  have again : ∀ {σ7 : St} {H7 : Hp}, Inv X (pins ++ q5g fp s5.heap) σ7 H7 s7 -> N σ7 H7 -> ∃ m, m < n /\ ∃ i σ' H', Inv X pins σ' H' s7 /\ tn i s7.heap /\ (∀ b ∈ fp, H' b = none) /\ W i m σ' H' := λ {σ7 H7} I7 n7 => by
   obtain ⟨m', hm, w7⟩ := hN σ7 H7 n7
   refine ⟨m', hm, i + 1, σ7, H7, I7.unpinned, T.keep _ _ _ st5 λ b hb o e => (I7.pin (b, o) (List.mem_append_right _ (List.mem_append_right _ (q2g hb e)))).1, λ b hb => ?_, w7⟩
   obtain ⟨o, e, d⟩ := T.obj _ _ st5 b hb
   exact (I7.pin (b, o) (List.mem_append_right _ (List.mem_append_right _ (q2g hb e)))).2.1
  cases f with
  | next => obtain ⟨σ7, H7, I7, n7⟩ := q7; exact again I7 n7
  | cont => obtain ⟨σ7, H7, I7, n7⟩ := q7; exact again I7 n7
  | brk => obtain ⟨σ7, H7, I7, q7⟩ := q7; exact ⟨σ7, H7, I7.unpinned, q7⟩
  | ret v => obtain ⟨x7, σ7, H7, I7, r7, q7⟩ := q7; exact ⟨x7, σ7, H7, I7.unpinned, r7, q7⟩
end
end L2
namespace L2
open PySem PySem.Spec PyProof.Rows
noncomputable abbrev R2 := V -> V -> Hp -> VK -> Prop
noncomputable def OpR (X : Cx) (f : Value -> Value -> Sem Value) (r : R2) : Prop :=
 ∀ (pins : List (Addr × Obj)) (s : Shared) (σ : St) (H : Hp) (x y : V) (v u : Value) (Q : VK), Inv X pins σ H s -> RelV x v -> RelV y u -> r x y H Q ->
  wpAny (model X.prog X.w) X.A (f v u) (EP X pins σ Q) X.xe s
noncomputable def UnR (X : Cx) (f : Value -> Sem Value) (r : V -> Hp -> VK -> Prop) : Prop :=
 ∀ (pins : List (Addr × Obj)) (s : Shared) (σ : St) (H : Hp) (x : V) (v : Value) (Q : VK), Inv X pins σ H s -> RelV x v -> r x H Q ->
  wpAny (model X.prog X.w) X.A (f v) (EP X pins σ Q) X.xe s
noncomputable def q2l (X : Cx) (f : Value) (r : List V -> Hp -> VK -> Prop) : Prop :=
 ∀ (pins : List (Addr × Obj)) (s : Shared) (σ : St) (H : Hp) (xs : List V) (us : List Value) (Q : VK), Inv X pins σ H s -> Vals xs us -> r xs H Q ->
  wpAny (model X.prog X.w) X.A (call f us) (EP X pins σ Q) X.xe s
noncomputable def TruR (X : Cx) (r : V -> Hp -> (Bool -> Hp -> Prop) -> Prop) : Prop :=
 ∀ (pins : List (Addr × Obj)) (s : Shared) (σ : St) (H : Hp) (x : V) (v : Value) (Q : Bool -> Hp -> Prop), Inv X pins σ H s -> RelV x v -> r x H Q ->
  wpAny (model X.prog X.w) X.A (truthy v) (TP X pins σ Q) X.xe s
noncomputable def tOp (r : R2) (ta tb : TE) : TE := λ σ H Q => ta σ H λ x H1 => tb σ H1 λ y H2 => r x y H2 Q
noncomputable def tUn (r : V -> Hp -> VK -> Prop) (ta : TE) : TE := λ σ H Q => ta σ H λ x H1 => r x H1 Q
noncomputable def rI (C : Int -> Int -> Prop) (g : Int -> Int -> V) : R2 := λ x y H Q => ∃ i j, x = .int i /\ y = .int j /\ C i j /\ Q (g i j) H
noncomputable def rI0 (g : Int -> Int -> V) : R2 := λ x y H Q => ∃ i j, x = .int i /\ y = .int j /\ Q (g i j) H
noncomputable def rU (g : Int -> V) : V -> Hp -> VK -> Prop := λ x H Q => ∃ i, x = .int i /\ Q (g i) H
section
variable {X : Cx} {a b c : Expr} {ta tb tc : TE} {pos : Pos}
theorem binT (ha : PE X a ta) (hb : PE X b tb) {pins : List (Addr × Obj)} {s : Shared} {σ : St} {H : Hp} {R : V -> V -> Hp -> Prop} (I : Inv X pins σ H s)
  (h : ta σ H λ x H1 => tb σ H1 λ y H2 => R x y H2) {Q : Value -> Shared -> Prop} {f : Value -> Value -> Sem Value}
  (hf : ∀ v u s2 x y H2, Inv X pins σ H2 s2 -> RelV x v -> RelV y u -> R x y H2 -> wpAny (model X.prog X.w) X.A (f v u) Q X.xe s2) :
  wpAny (model X.prog X.w) X.A (eval a X.env) (λ v s₁ => wpAny (model X.prog X.w) X.A (eval b X.env) (λ u s₂ => wpAny (model X.prog X.w) X.A (f v u) Q X.xe s₂) X.xe s₁) X.xe s := by
 refine thn (ha pins s σ H _ I h) λ v s1 ⟨x, H1, I1, r1, q1⟩ => ?_
 refine thn (hb pins s1 σ H1 _ I1 q1) λ u s2 ⟨y, H2, I2, r2, q2⟩ => ?_
 exact hf v u s2 x y H2 I2 r1 r2 q2
theorem z6c {op : Operator} {r : R2} (ho : OpR X (binaryOp op) r) (ha : PE X a ta) (hb : PE X b tb) : PE X (.BinOp a op b pos) (tOp r ta tb) := by
 intro pins s σ H Q I h
 exact wpAny_BinOp (binT ha hb I h λ v u s2 x y H2 I2 rx ry q => ho pins s2 σ H2 x y v u Q I2 rx ry q)
theorem z6g {op : UnaryOp} {r : V -> Hp -> VK -> Prop} (ho : UnR X (unaryOp op) r) (ha : PE X a ta) : PE X (.UnaryOp op a pos) (tUn r ta) := by
 intro pins s σ H Q I h
 exact UnaryOp_ (thn (ha pins s σ H _ I h) λ v s1 ⟨x, H1, I1, r1, q1⟩ => ho pins s1 σ H1 x v Q I1 r1 q1)
theorem opI {f : Value -> Value -> Sem Value} {C : Int -> Int -> Prop} {g : Int -> Int -> Int}
  (rule : ∀ (i j : Int) (t u : Tok) (s : Shared) (Q : Value -> Shared -> Prop) (E : Value -> Shared -> Prop), C i j -> Q (.int (g i j) s.toks) { s with toks := s.toks + 1 } -> wpAny (model X.prog X.w) X.A (f (.int i t) (.int j u)) Q E s) :
  OpR X f (rI C λ i j => .int (g i j)) := by
 intro pins s σ H x y v u Q I rx ry h
 obtain ⟨i, j, rfl, rfl, hc, q⟩ := h
 obtain ⟨t, rfl⟩ := rx
 obtain ⟨t', rfl⟩ := ry
 exact rule i j t t' s _ _ hc ⟨.int (g i j), H, I.tok _, ⟨_, rfl⟩, q⟩
theorem opI0 {f : Value -> Value -> Sem Value} {g : Int -> Int -> Int}
  (rule : ∀ (i j : Int) (t u : Tok) (s : Shared) (Q : Value -> Shared -> Prop) (E : Value -> Shared -> Prop), Q (.int (g i j) s.toks) { s with toks := s.toks + 1 } -> wpAny (model X.prog X.w) X.A (f (.int i t) (.int j u)) Q E s) :
  OpR X f (rI0 λ i j => .int (g i j)) := by
 intro pins s σ H x y v u Q I rx ry h
 obtain ⟨i, j, rfl, rfl, q⟩ := h
 obtain ⟨t, rfl⟩ := rx
 obtain ⟨t', rfl⟩ := ry
 exact rule i j t t' s _ _ ⟨.int (g i j), H, I.tok _, ⟨_, rfl⟩, q⟩
theorem opB0 {f : Value -> Value -> Sem Value} {g : Int -> Int -> Bool}
  (rule : ∀ (i j : Int) (t u : Tok) (s : Shared) (Q : Value -> Shared -> Prop) (E : Value -> Shared -> Prop), Q (.bool (g i j)) s -> wpAny (model X.prog X.w) X.A (f (.int i t) (.int j u)) Q E s) :
  OpR X f (rI0 λ i j => .bl (g i j)) := by
 intro pins s σ H x y v u Q I rx ry h
 obtain ⟨i, j, rfl, rfl, q⟩ := h
 obtain ⟨t, rfl⟩ := rx
 obtain ⟨t', rfl⟩ := ry
 exact rule i j t t' s _ _ ⟨.bl (g i j), H, I, rfl, q⟩
noncomputable def CPow (i j : Int) : Prop := 0 <= j /\ j <= 1000000 /\ i.natAbs < 2 ^ 64
noncomputable def CMul (i j : Int) : Prop := (-(2 ^ 64) < i /\ i < 2 ^ 64) \/ (-(2 ^ 64) < j /\ j < 2 ^ 64)
theorem CMul.ok {i j : Int} (h : CMul i j) : IntMulOk i j := by
 rcases h with ⟨h1, h2⟩ | ⟨h1, h2⟩
 ·exact .of_left (intBits_le_64 h1 h2)
 ·exact .of_right (intBits_le_64 h1 h2)
theorem q7c (k : Nat) : (0 : Int) <= 2 ^ k := by
 rw [two_pow_cast]
 exact Int.natCast_nonneg _
theorem z4U : OpR X (binaryOp .Add) (rI0 λ i j => .int (i + j)) := opI0 λ _ _ _ _ _ _ _ q => add_int q
theorem z3z : OpR X (binaryOp .Sub) (rI0 λ i j => .int (i - j)) := opI0 λ _ _ _ _ _ _ _ q => sub_int q
theorem z3l : OpR X (binaryOp .Mod) (rI (λ _ j => 0 < j) λ i j => .int (i % j)) := opI λ i j _ _ _ _ _ hc q => by
 have h1 : (0 : Int) < j := hc
 exact mod_int' (by omega) (by rw [Int.fmod_eq_emod_of_nonneg i (by omega)]; exact q)
theorem z3J : OpR X (binaryOp .LShift) (rI CPow λ i j => .int (i * 2 ^ j.toNat)) := opI λ _ _ _ _ _ _ _ hc q => lshift_int_small hc.1 hc.2.1 hc.2.2 q
theorem z4e : OpR X (binaryOp .RShift) (rI (λ _ j => 0 <= j) λ i j => .int (i / 2 ^ j.toNat)) := opI λ i j _ _ _ _ _ hc q =>
 rshift_int hc (by rw [Int.fdiv_eq_ediv_of_nonneg i (q7c _)]; exact q)
theorem z4m : OpR X (binaryOp .BitAnd) (rI0 λ i j => .int (Builtin.bitAnd i j)) := opI0 λ _ _ _ _ _ _ _ q => and_int q
theorem z5P : OpR X (binaryOp .BitOr) (rI0 λ i j => .int (Builtin.bitOr i j)) := opI0 λ _ _ _ _ _ _ _ q => or_int q
theorem unI {f : Value -> Sem Value} {g : Int -> Int}
  (rule : ∀ (i : Int) (t : Tok) (s : Shared) (Q : Value -> Shared -> Prop) (E : Value -> Shared -> Prop), Q (.int (g i) s.toks) { s with toks := s.toks + 1 } -> wpAny (model X.prog X.w) X.A (f (.int i t)) Q E s) :
  UnR X f (rU λ i => .int (g i)) := by
 intro pins s σ H x v Q I rx h
 obtain ⟨i, rfl, q⟩ := h
 obtain ⟨t, rfl⟩ := rx
 exact rule i t s _ _ ⟨.int (g i), H, I.tok _, ⟨_, rfl⟩, q⟩
theorem z3r : UnR X (unaryOp .USub) (rU λ i => .int (-i)) := unI λ _ _ _ _ _ q => neg_int q
end
section
variable {X : Cx} {a b c : Expr} {ta tb tc : TE} {pos : Pos}
theorem z6e : OpR X (compareOp .Lt) (rI0 λ i j => .bl (decide (i < j))) := opB0 λ _ _ _ _ _ _ _ q => lt_int q
theorem z5o : OpR X (compareOp .Gt) (rI0 λ i j => .bl (decide (j < i))) := opB0 λ _ _ _ _ _ _ _ q => gt_int q
theorem OpR.or {f : Value -> Value -> Sem Value} {r r' : R2} (h : OpR X f r) (h' : OpR X f r') : OpR X f (λ x y H Q => r x y H Q \/ r' x y H Q) := by
 intro pins s σ H x y v u Q I rx ry q
 rcases q with q | q
 ·exact h pins s σ H x y v u Q I rx ry q
 ·exact h' pins s σ H x y v u Q I rx ry q
theorem z6G (b : Expr) {op : CmpOp} (h : op ≠ .In := by decide) (h2 : op ≠ .NotIn := by decide) : behindInMarks op b = false := by
 have e1 : (op == CmpOp.In) = false := by cases op <;> first | rfl | exact absurd rfl h
 have e2 : (op == CmpOp.NotIn) = false := by cases op <;> first | rfl | exact absurd rfl h2
 cases b <;> simp [behindInMarks, e1, e2]
theorem z2Z {op : CmpOp} {r : R2} (ho : OpR X (compareOp op) r) (ha : PE X a ta) (hb : PE X b tb) (hm : behindInMarks op b = false) : PE X (.Compare a [op] [b] pos) (tOp r ta tb) := by
 intro pins s σ H Q I h
 exact wpAny_Compare1 (binT ha hb I h λ v u s2 x y H2 I2 rx ry q => ho pins s2 σ H2 x y v u Q I2 rx ry q) hm
noncomputable def z5U (t : TE) : TT := λ σ H Q => t σ H λ x H' => ∃ k, x = .bl k /\ Q k H'
theorem z1d {op : CmpOp} {r : R2} (ho : OpR X (compareOp op) r) (ha : PE X a ta) (hb : PE X b tb) (hm : behindInMarks op b = false) : PT X (.Compare a [op] [b] pos) (z5U (tOp r ta tb)) := by
 intro pins s σ H Q I h
 refine wpAny_isTrue_Compare1 (thn (ha pins s σ H _ I h) λ v s1 ⟨x, H1, I1, r1, q1⟩ => thn (hb pins s1 σ H1 _ I1 q1) λ u s2 ⟨y, H2, I2, r2, q2⟩ =>
  thn (ho pins s2 σ H2 x y v u _ I2 r1 r2 q2) λ c s3 ⟨z, H3, I3, r3, k, e, q3⟩ => ?_) hm
 subst e
 cases r3
 exact wpAny_truthy_bool ⟨H3, I3, q3⟩
noncomputable def TruV (K : PySem.W.Frag) (x : V) (H : Hp) (k : Bool) : Prop :=
 match x with
 | .non => k = false
 | .bl b => k = b
 | .int i => k = (i != 0)
 | .str y => y.length <= sizeLine /\ k = ((y.length : Int) != 0)
 | .byt y => y.size <= sizeLine /\ k = ((y.size : Int) != 0)
 | .ref p => (∃ xs, SqL K H p xs /\ k = !xs.isEmpty) \/ (∃ xs, SqT K H p xs /\ k = !xs.isEmpty) \/ ∃ kvs, H p = some (.dK kvs) /\ k = !kvs.isEmpty
 | _ => False
theorem q6P {κ : Type} {kvs : List (κ × V)} {vs : List (κ × Value)} (r : KV kvs vs) : (!vs.isEmpty) = !kvs.isEmpty := by
 cases r <;> rfl
theorem q3S {xs : List V} {its : List Value} (r : Vals xs its) : (!its.toArray.isEmpty) = !xs.isEmpty := by
 cases r <;> simp
theorem q3I : (sizeLine : Nat) < 2 ^ 63 := by rw [sizeLine_eq]; decide
theorem q6a : TruR X (λ x H Q => ∃ k, TruV X.K x H k /\ Q k H) := by
 intro pins s σ H x v Q I rx h
 obtain ⟨k, e, q⟩ := h
 have hl := q3I
 have hs : sizeLine = 16777216 := sizeLine_eq
 cases x with
 | non =>
  cases rx
  have e' : k = false := e
  subst e'
  exact truthy_none ⟨H, I, q⟩
 | bl b =>
  cases rx
  have e' : k = b := e
  subst e'
  exact wpAny_truthy_bool ⟨H, I, q⟩
 | int i =>
  obtain ⟨t, rfl⟩ := rx
  have e' : k = (i != 0) := e
  subst e'
  exact PySem.P.truthy_int ⟨H, I, q⟩
 | str y =>
  obtain ⟨t, rfl⟩ := rx
  obtain ⟨hy, e'⟩ : y.length <= sizeLine /\ k = ((y.length : Int) != 0) := e
  subst e'
  exact PySem.P.truthy_str (by omega) ⟨H, I.tok _, q⟩
 | byt y =>
  obtain ⟨t, rfl⟩ := rx
  obtain ⟨hy, e'⟩ : y.size <= sizeLine /\ k = ((y.size : Int) != 0) := e
  subst e'
  exact PySem.W.truthy_bytes (by omega) ⟨H, I.tok _, q⟩
 | ref p =>
  cases rx
  have e' : (∃ xs, SqL X.K H p xs /\ k = !xs.isEmpty) \/ (∃ xs, SqT X.K H p xs /\ k = !xs.isEmpty) \/ ∃ kvs, H p = some (.dK kvs) /\ k = !kvs.isEmpty := e
  rcases e' with ⟨xs, hx, e'⟩ | ⟨xs, hx, e'⟩ | ⟨kvs, hx, e'⟩
  ·subst e'
   obtain ⟨its, r, pl, hz⟩ := I.list hx
   have hlen := r.length
   exact wpAny_truthy_list pl.isList (by simp only [List.size_toArray]; omega) ⟨H, I.tok _, by rw [q3S r]; exact q⟩
  ·subst e'
   obtain ⟨its, r, pl, hz⟩ := I.tuple hx
   have hlen := r.length
   exact truthy_tuple pl (by simp only [List.size_toArray]; omega) ⟨H, I.tok _, by rw [q3S r]; exact q⟩
  ·subst e'
   obtain ⟨hz, hS, vs, r, m⟩ : kvs.length <= sizeLine /\ (p == sysModules) = false /\ ∃ vs, KV kvs vs /\ s.heap.DictOf (q0H X.prog X.w) p vs := I.hok p _ hx
   have hlen : kvs.length = vs.length := Paired.length r
   exact wpAny_truthy_dict hS m (by omega) ⟨H, I.tok _, by rw [q6P r]; exact q⟩
 | _ => exact (show False from e).elim
theorem q6g (ha : PE X a ta) (he : ∀ whole, isTrue a X.env whole = (do let v ← whole; standAt a.pos; holding [v] (truthy v))) :
  PT X a (λ σ H Q => ta σ H λ x H' => ∃ k, TruV X.K x H' k /\ Q k H') := by
 intro pins s σ H Q I h
 exact isTrue_plain (thn (ha pins s σ H _ I h) λ v s1 ⟨x, H1, I1, r1, q1⟩ => q6a pins s1 σ H1 x v Q I1 r1 q1) (he _)
theorem q7h {x : V} {us : List Value} (r : Vals [x] us) : ∃ u, us = [u] /\ RelV x u := by
 cases r with
 | cons r1 r2 => cases r2; exact ⟨_, rfl, r1⟩
theorem q7i {x y : V} {us : List Value} (r : Vals [x, y] us) : ∃ u w', us = [u, w'] /\ RelV x u /\ RelV y w' := by
 cases r with
 | cons r1 r2 =>
  cases r2 with
  | cons r3 r4 => cases r4; exact ⟨_, _, rfl, r1, r3⟩
theorem q8X (hc : X.calm = true) : q2l X (.builtin "min") (λ xs H Q => ∃ i j, xs = [.int i, .int j] /\ Q (.int (if j < i then j else i)) H) := by
 intro pins s σ H xs us Q I r h
 obtain ⟨i, j, rfl, q⟩ := h
 obtain ⟨u, w', rfl, ⟨t, rfl⟩, ⟨t', rfl⟩⟩ := q7i r
 refine min_two_ints (I.ok.hd hc) λ h' tk k => ⟨_, H, I.kept k, ?_, q⟩
 by_cases hj : j < i
 ·rw [if_pos hj, if_pos hj]; exact ⟨_, rfl⟩
 ·rw [if_neg hj, if_neg hj]; exact ⟨_, rfl⟩
end
end L2
namespace L2
open PySem PySem.Spec PyProof.Rows
structure ObjM (h : Heap) (x dx C : Addr) (mA : Str -> Option Value) : Prop where
 obj : h.get? x = some (PySem.W.instObj C dx)
 ns : h.Ns1 dx mA
 ne : dx ≠ x
section
variable {prog : Program} {w : World} {A : Around} {E : Value -> Shared -> Prop} {s : Shared} {K : PySem.W.Frag} {x dx C f : Addr} {mA : Str -> Option Value} {name : Str} {v : Value}
end
theorem RelO.some_of {v : V} {o : Option Value} (r : RelO (some v) o) : ∃ u, o = some u /\ RelV v u := by
 cases o with
 | none => exact (show False from r).elim
 | some u => exact ⟨u, rfl, r⟩
section
variable {P : Program} {w : World} {H H' : Hp} {h h' : Heap} {a C dx : Addr} {fs fs' : List (Str × V)}
end
structure Cls (K : PySem.W.Frag) (C : Addr) : Prop where
 pg : PySem.W.plainGet K C Str.empty = true
 hd : PySem.W.hasDictIn K C = true
 po : PySem.W.plainOver K C = true
 sa : PySem.W.findIn K (.ref C) "__setattr__" = some (some (.builtin "object.__setattr__"))
structure Con (K : PySem.W.Frag) (C : Addr) (f : Str) (v : V) (u : Value) : Prop where
 at_ : PySem.W.findIn K (.ref C) f = some (some u)
 rel : RelV v u
 get : PySem.W.specialIn K u "__get__" = some none
 cp : PySem.W.copiedNames.contains f = false
structure Meth (K : PySem.W.Frag) (C : Addr) (m : Str) (f : Addr) : Prop where
 at_ : PySem.W.findIn K (.ref C) m = some (some (.ref f))
 fn : PySem.W.isFn K (.ref f) = true
 kp : PySem.W.keepIn K (.ref f) = true
section
variable {X : Cx} {pins : List (Addr × Obj)} {σ : St} {H : Hp} {s : Shared} {a C dx : Addr} {fs : List (Str × V)} {f : Str} {v : V} {A : Around} {E : Value -> Shared -> Prop}
end
section
variable {X : Cx} {o e value : Expr} {f : Str} {pos pos' tpos : Pos} {ta tv : TE}
end
section
variable {X : Cx} {pins : List (Addr × Obj)} {σ : St} {H : Hp} {s : Shared} {A : Around} {E : Value -> Shared -> Prop} {Q : Value -> Shared -> Prop} {c : Value} {b : Bool}
inductive TyOf (K : PySem.W.Frag) (H : Hp) : V -> Value -> Prop where
 | non : TyOf K H .non (.type "NoneType")
 | bl (x : Bool) : TyOf K H (.bl x) (.type "bool")
 | int (i : Int) : TyOf K H (.int i) (.type "int")
 | str (x : Str) : TyOf K H (.str x) (.type "str")
 | flt (x : UInt64) : TyOf K H (.flt x) (.type "float")
 | lst {a : Addr} {xs : List V} (e : H a = some (.lst xs)) : TyOf K H (.ref a) (.type "list")
 | frz {a : Addr} {o : Obj} {xs : List V} (e : H a = some (.frz o (.lst xs))) : TyOf K H (.ref a) (.type "list")
 | tup {a : Addr} {xs : List V} (e : H a = some (.tup xs)) : TyOf K H (.ref a) (.type "tuple")
 | dK {a : Addr} {kvs : List (Key × V)} (e : H a = some (.dK kvs)) : TyOf K H (.ref a) (.type "dict")
 | dT {a : Addr} {kvs : List (List Key × V)} (e : H a = some (.dT kvs)) : TyOf K H (.ref a) (.type "dict")
 | ins {a C dx : Addr} {fs : List (Str × V)} (e : H a = some (.ins C dx fs)) (cl : Cls K C) (ha : PySem.W.findIn K (.ref C) "__class__" = some (some (.builtin "object.__class__")))
   (hn : PySem.W.specialIn K (.builtin "object.__class__") "__get__" = some (some (.builtin "getset_descriptor.__get__"))) (htk : PySem.W.takesIn K (.builtin "object.__class__") = some true)
   (hm : PySem.W.mroIn K C (.type "object") = some true) : TyOf K H (.ref a) (.ref C)
end
end L2
namespace L2
open PySem PySem.Spec PyProof.Rows
structure Room (k : Nat) (A : Around) : Prop where
 hd : A.handled = none
 dp : A.depth + 3 * k + 5 < recursionLimit
 un : A.units + 16 * k + 200 < cLine
theorem Room.deeper {k : Nat} {A : Around} (r : Room (k + 1) A) (env : Env) : Room k (A.deeper env) :=
 ⟨r.hd, by have := r.dp; show A.depth + 1 + 3 * k + 5 < _; omega, by have := r.un; show A.units + 3 + 16 * k + 200 < _; omega⟩
theorem Room.depth {k : Nat} {A : Around} (r : Room k A) : A.depth < recursionLimit := by have := r.dp; omega
theorem Room.units {k : Nat} {A : Around} (r : Room k A) : A.units + 64 < cLine := by have := r.un; omega
noncomputable def tNil : TA := λ _ H Q => Q [] H
noncomputable def z5v (ta : TE) (tr : TA) : TA := λ σ H Q => ta σ H λ x H1 => tr σ H1 λ xs H2 => Q (x :: xs) H2
section
variable {X : Cx} {e : Expr} {es : List Expr} {te : TE} {t : TA} {pos : Pos}
theorem q3b : PA X [] tNil := λ _ _ _ _ H Q I h => Calls.spliced_nil ⟨[], H, I, .nil, h⟩
theorem q0V (ha : PE X e te) (hr : PA X es t) (hs : starEach (e :: es) X.env = (false, eval e X.env) :: starEach es X.env := by rfl) : PA X (e :: es) (z5v te t) := by
 intro pos pins s σ H Q I h
 rw [hs]
 show wpAny _ _ (spliced ((false, eval e X.env) :: backTo pos (starEach es X.env))) _ _ s
 refine Calls.spliced_cons (thn (ha pins s σ H _ I h) λ u s1 ⟨x, H1, I1, r1, q1⟩ => ?_)
 exact thn (hr pos pins s1 σ H1 _ I1 q1) λ us s2 ⟨xs, H2, I2, r2, q2⟩ => ⟨x :: xs, H2, I2, .cons r1 r2, q2⟩
noncomputable def tTup (t : TA) : TE := λ σ H Q => t σ H λ xs H1 => xs.length <= sizeLine /\ ∀ p, H1 p = none -> Q (.ref p) (upd H1 p (.tup xs))
noncomputable def tLst (t : TA) : TE := λ σ H Q => t σ H λ xs H1 => xs.length <= sizeLine /\ ∀ p, H1 p = none -> Q (.ref p) (upd H1 p (.lst xs))
theorem z0w {x1} (h : PA X es t) : PE X (.Tuple es x1 pos) (tTup t) := by
 intro pins s σ H Q I hq
 refine wpAny_Tuple_spliced (thn (h pos pins s σ H _ I hq) λ us s1 ⟨xs, H1, I1, r, z, q⟩ => ⟨by rw [← r.length]; exact z, ?_⟩)
 have hf : H1 s1.heap.objs.size = none := I1.hok.fresh (Nat.le_refl _)
 refine ⟨.ref s1.heap.objs.size, upd H1 s1.heap.objs.size (.tup xs), I1.laid (t' := s1.toks) (λ b u e => Heap.get?_push_of_some _ e) (Nat.le_refl _) ?_, rfl, q _ hf⟩
 exact ⟨z, us, r, ⟨_, Heap.get?_push_size _ rfl, ⟨rfl, rfl⟩, _, rfl⟩⟩
theorem z4T (h : PA X es t) : PE X (.List es pos) (tLst t) := by
 intro pins s σ H Q I hq
 refine wpAny_List_spliced (thn (h pos pins s σ H _ I hq) λ us s1 ⟨xs, H1, I1, r, z, q⟩ => ⟨by rw [← r.length]; exact z, ?_⟩)
 have hf : H1 s1.heap.objs.size = none := I1.hok.fresh (Nat.le_refl _)
 refine ⟨.ref s1.heap.objs.size, upd H1 s1.heap.objs.size (.lst xs), I1.laid (t' := s1.toks) (λ b u e => Heap.get?_push_of_some _ e) (Nat.le_refl _) ?_, rfl, q _ hf⟩
 exact ⟨z, us, 0, r, Heap.get?_push_size _ rfl⟩
end
noncomputable abbrev Sp := List V -> Hp -> VK -> XK -> Prop
noncomputable abbrev CXT := List Env -> Hp -> Shared -> XK -> Value -> Shared -> Prop
structure Env0 (P : Program) (w : World) (K : PySem.W.Frag) (mg : Str -> Option Value) (base : Heap) (A : Around) (outer : List Env) (s : Shared) (H : Hp) : Prop where
 frames : A.frames = some outer
 mod : Mod K mg base
 bs : ∀ b o, base.get? b = some o -> s.heap.get? b = some o /\ H b = none
 bsz : base.objs.size <= s.heap.objs.size
 funs : s.heap.FunFrames base outer
 frf : ∀ b ∈ frs outer, H b = none
 hok : HOk P w H s.heap
 bare : AllBare s.gens
noncomputable def CE (outer : List Env) (P : Program) (w : World) (H : Hp) (s : Shared) (Q : VK) (u : Value) (s' : Shared) : Prop :=
 ∃ v H', s'.os = s.os /\ AllBare s'.gens /\ Un (frs outer) [] H H' s.heap s'.heap /\ HOk P w H' s'.heap /\ RelV v u /\ Q v H'
noncomputable def CR (CX : CXT) (outer : List Env) (P : Program) (w : World) (H : Hp) (s : Shared) (Q : VK) (E : XK) (r : Result) (s' : Shared) : Prop :=
 match r with
 | .ok (.ret u) => CE outer P w H s Q u s'
 | .ok _ => False
 | .error e => CX outer H s E e s'
structure FnOk (P : Program) (w : World) (K : PySem.W.Frag) (mg : Str -> Option Value) (base : Heap) (CX : CXT) (k : Nat) (f : Addr) (fd : FuncData) (ps : List Str) (sp : Sp) : Prop where
 len : ∀ vs H Q E, sp vs H Q E -> vs.length = ps.length
 run : ∀ (A : Around) (outer : List Env) (s : Shared) (H : Hp) (args : Args) (us : List Value) (vs : List V) (Q : VK) (E : XK), Room k A -> Env0 P w K mg base A outer s H -> BindsTo s fd args (ps.zip us) -> Vals vs us -> sp vs H Q E ->
  codeAny (model P w) A (.call (.ref f) args) (CR CX outer P w H s Q E) s
section
variable {X : Cx} {pins : List (Addr × Obj)} {σ : St} {H : Hp} {s s' : Shared}
theorem Inv.env0 (I : Inv X pins σ H s) : Env0 X.prog X.w X.K X.mg X.base X.A X.stack s H :=
 ⟨I.ok.frames, I.ok.mod, I.bs, Nat.le_trans I.ok.bsz I.sz, I.stack, I.stkFree, I.hok, I.bare⟩
theorem Inv.after {Q : VK} {u : Value} (I : Inv X pins σ H s) (h : CE X.stack X.prog X.w H s Q u s') : EP X pins σ Q u s' := by
 obtain ⟨v, H', os, bare, un, hok, r, q⟩ := h
 obtain ⟨hh, g, d, t, os'⟩ := s'
 obtain rfl : os' = s.os := os
 exact ⟨v, H', I.call (h' := hh) (g' := g) (d' := d) (t' := t) (ch := []) un hok bare (λ b z => absurd z (by simp)), r, q⟩
end
noncomputable def q2w (K : PySem.W.Frag) (fd : FuncData) (ps : List Str) (ds : List Value) : Prop :=
 ∀ (s : Shared) (us : List Value), K.In s.heap -> (us ++ ds).length = ps.length -> BindsTo s fd ⟨us, []⟩ (ps.zip (us ++ ds))
theorem q2w.all {K : PySem.W.Frag} {fd : FuncData} {ps : List Str} (h : ∀ us : List Value, us.length = ps.length -> bindArgs fd ⟨us, []⟩ = pure (ps.zip us)) : q2w K fd ps [] := λ s us _ hl => by
 rw [List.append_nil] at hl ⊢
 exact .of_eq (h us hl)
noncomputable def q7Q (CX : CXT) (X : Cx) (E : XK) : Prop := ∀ (pins : List (Addr × Obj)) (σ : St) (H : Hp) (s : Shared) (e : Value) (s' : Shared), Inv X pins σ H s -> CX X.stack H s E e s' -> X.xe e s'
section
variable {X : Cx} {CX : CXT} {k : Nat} {f C : Addr} {fd : FuncData} {ps : List Str} {sp : Sp} {dvs : List V} {ds : List Value} {E : XK} {x m : Str} {p pos apos : Pos} {e o : Expr} {es : List Expr} {ta : TE} {t : TA}
structure Mk (K : PySem.W.Frag) (C f : Addr) : Prop where
 makes : PySem.W.makesIn K C = true
 init : PySem.W.findIn K (.ref C) "__init__" = some (some (.ref f))
 fn : PySem.W.isFn K (.ref f) = true
 kp : PySem.W.keepIn K (.ref C) = true
end
section
variable {X : Cx} {CX : CXT} {k : Nat} {f C : Addr} {fd : FuncData} {ps ks : List Str} {sp : Sp} {E : XK} {x m : Str} {p pos apos kpos : Pos} {e o : Expr} {es : List Expr} {kws : List Keyword} {te ta : TE} {t tk : TA} {nm : Option Str}
structure KBinds (K : PySem.W.Frag) (fd : FuncData) (ps ks : List Str) (g : List Value -> List Value -> List Value) (gV : List V -> List V -> List V) : Prop where
 to : ∀ (s : Shared) (us ws : List Value), K.In s.heap -> (g us ws).length = ps.length -> BindsTo s fd ⟨us, ks.zip ws⟩ (ps.zip (g us ws))
 rel : ∀ {vs : List V} {us : List Value} {zs : List V} {ws : List Value}, Vals vs us -> Vals zs ws -> Vals (gV vs zs) (g us ws)
variable {g : List Value -> List Value -> List Value} {gV : List V -> List V -> List V}
end
structure FnScope (N P : List Str) (sc : Scope) : Prop where
 kind : sc.kind = .function
 co : sc.isCoroutine = false
 gen : sc.isGenerator = false
 nd : N.Nodup
 pre : N.take P.length = P
 par : ∀ x ∈ P, sc.names.lookup x = some .local \/ sc.names.lookup x = some .cell
 nofree : ∀ y ∈ sc.names, y.2 ≠ .free
theorem q4U {kindOf : Str -> Option NameKind} {x : Str} : ∀ {binds : List (Str × Value)} {m : Str -> Option Value}, (∀ v, (x, v) ∉ binds) -> bindL kindOf binds m x = m x
 | [], _, _ => rfl
 | (n, v) :: r, m, h => by
  unfold bindL
  rw [q4U λ w hw => h w (List.mem_cons_of_mem _ hw)]
  split
  ·have : x ≠ n := by rintro rfl; exact h v List.mem_cons_self
   simp [this]
  ·rfl
theorem q5a {kindOf : Str -> Option NameKind} {x : Str} : ∀ {binds : List (Str × Value)} {m : Str -> Option Value}, (∀ v, (x, v) ∉ binds) -> bindC kindOf binds m x = m x
 | [], _, _ => rfl
 | (n, v) :: r, m, h => by
  unfold bindC
  rw [q5a λ w hw => h w (List.mem_cons_of_mem _ hw)]
  split
  ·rfl
  ·have : x ≠ n := by rintro rfl; exact h v List.mem_cons_self
   simp [this]
theorem q5m {kindOf : Str -> Option NameKind} {x : Str} {v : Value} : ∀ {P : List Str} {vs : List Value} {i : Nat} {m : Str -> Option Value}, P.Nodup -> P[i]? = some x -> vs[i]? = some v -> kindOf x = some .local ->
  bindL kindOf (P.zip vs) m x = some v
 | [], _, _, _, _, h, _, _ => by simp at h
 | _ :: _, [], _, _, _, _, h, _ => by simp at h
 | p :: P, w :: vs, 0, m, nd, h1, h2, hk => by
  simp at h1 h2; subst h1; subst h2
  show bindL kindOf ((p, w) :: P.zip vs) m p = _
  unfold bindL
  rw [q4U λ v hv => (List.nodup_cons.mp nd).1 (List.of_mem_zip hv).1, if_pos hk]
  simp
 | p :: P, w :: vs, i + 1, m, nd, h1, h2, hk => by
  show bindL kindOf ((p, w) :: P.zip vs) m x = _
  unfold bindL
  exact q5m (i := i) (List.nodup_cons.mp nd).2 (by simpa using h1) (by simpa using h2) hk
theorem q4Z {kindOf : Str -> Option NameKind} {x : Str} {v : Value} : ∀ {P : List Str} {vs : List Value} {i : Nat} {m : Str -> Option Value}, P.Nodup -> P[i]? = some x -> vs[i]? = some v -> kindOf x ≠ some .local ->
  bindC kindOf (P.zip vs) m x = some v
 | [], _, _, _, _, h, _, _ => by simp at h
 | _ :: _, [], _, _, _, _, h, _ => by simp at h
 | p :: P, w :: vs, 0, m, nd, h1, h2, hk => by
  simp at h1 h2; subst h1; subst h2
  show bindC kindOf ((p, w) :: P.zip vs) m p = _
  unfold bindC
  rw [q5a λ v hv => (List.nodup_cons.mp nd).1 (List.of_mem_zip hv).1, if_neg hk]
  simp
 | p :: P, w :: vs, i + 1, m, nd, h1, h2, hk => by
  show bindC kindOf ((p, w) :: P.zip vs) m x = _
  unfold bindC
  exact q4Z (i := i) (List.nodup_cons.mp nd).2 (by simpa using h1) (by simpa using h2) hk
noncomputable def start (N : List Str) (vs : List V) : St := vs.map some ++ List.replicate (N.length - vs.length) none
noncomputable def cxOf (CX : CXT) (P : Program) (w : World) (K : PySem.W.Frag) (mg : Str -> Option Value) (base : Heap) (N : List Str) (qual : Str) (scope : Scope) (f : Addr) (cd : Value) (A : Around) (outer : List Env) (s : Shared) (H : Hp) (E : XK) : Cx where
 prog := P
 w := w
 K := K
 mg := mg
 base := base
 A := A.deeper (envOfC qual scope s.heap.objs.size f cd)
 N := N
 s₀ := s
 H₀ := H
 env := envOfC qual scope s.heap.objs.size f cd
 outer := outer
 stack := envOfC qual scope s.heap.objs.size f cd :: outer
 ex := []
 calm := true
 fn := λ _ => true
 pn := []
 xe := λ e s' => wpAny (model P w) (A.deeper (envOfC qual scope s.heap.objs.size f cd)) (leaving (envOfC qual scope s.heap.objs.size f cd) e) (λ _ s'' => CX outer H s E e s'') (λ e' s'' => CX outer H s E e' s'') s'
theorem q6w {sc : Scope} {n : Nat} {x : Str} (h : sc.names.lookup x = some .cell) : ∃ c, (cellsFrom n sc.names []).lookup x = some c := by
 have q := PySem.W.cellsFrom_some sc.names n [] (.inl h)
 exact Option.isSome_iff_exists.mp q
theorem q8S {CX : CXT} {P : Program} {w : World} {K : PySem.W.Frag} {mg : Str -> Option Value} {base : Heap} {N ps : List Str} {qual : Str} {scope : Scope} {f : Addr} {cd : Value} {A : Around} {outer : List Env} {s s1 : Shared} {H : Hp} {E : XK} {us : List Value} {vs : List V}
  (S : FnScope N ps scope) (hd : A.handled = none) (e0 : Env0 P w K mg base A outer s H) (hl : vs.length = ps.length) (r : Vals vs us)
  (x : InCallC s s.heap.objs.size (bindL (envOfC qual scope s.heap.objs.size f cd).kindOf (ps.zip us) λ _ => none) (cellsFrom (s.heap.objs.size + 1) scope.names []) (bindC (envOfC qual scope s.heap.objs.size f cd).kindOf (ps.zip us) λ _ => none) s1) :
  Inv (cxOf CX P w K mg base N qual scope f cd A outer s H E) [] (start N vs) H s1 := by
 have hpl : ps.length <= N.length := by have := congrArg List.length S.pre; rw [List.length_take] at this; omega
 obtain ⟨h1, tk, rfl, hk⟩ := x.done
 have noA : ∀ b : Addr, b ∉ (cxOf CX P w K mg base N qual scope f cd A outer s H E).ex := λ b z => absurd (show b ∈ ([] : List Addr) from z) (by simp)
 refine ⟨⟨e0.mod, S.kind, rfl, rfl, Nat.le_refl _, λ y z c h1 h2 => ?_, λ y hy => ?_, λ y c _ h => ?_, λ _ => hd, Around.frames_deeper e0.frames, .inr ⟨rfl, rfl⟩, λ b z => absurd z (noA b), e0.bs, e0.bsz, λ b _ _ => noA b, λ b z => absurd z (noA b), e0.funs, e0.frf⟩,
  rfl, e0.bare, Un.kept hk, ⟨_, x.toInCall.ns, λ i y v h1 h2 h3 => ?_⟩, λ y c h => ⟨_, x.cell y c h⟩, e0.hok.fresh (Nat.le_refl _), λ y c h => ?_, λ p hp => absurd (show p ∈ ([] : List (Addr × Obj)) from hp) (by simp), e0.hok.kept hk, ?_⟩
 ·exact name_of_addr x.apart (PySem.mem_of_lookup h1) (PySem.mem_of_lookup h2)
 ·have hy : scope.names.lookup y = some .cell \/ scope.names.lookup y = some .free := hy
  rcases hy with hy | hy
  ·exact q6w hy
  ·exact absurd rfl (S.nofree _ (PySem.mem_of_lookup hy))
 ·exact Nat.le_of_lt (x.above y c (PySem.mem_of_lookup h))
 ·have hi : i < vs.length := by
   unfold start at h2
   by_cases hi : i < vs.length
   ·exact hi
   ·rw [List.getElem?_append_right (by simpa using hi)] at h2
    rw [List.getElem?_replicate] at h2
    split at h2 <;> cases h2
  have ha : vs[i]? = some v := by
   unfold start at h2
   rw [List.getElem?_append_left (by simpa using hi), List.getElem?_map] at h2
   cases e : vs[i]? with
   | none => rw [e] at h2; cases h2
   | some a => rw [e] at h2; cases h2; rfl
  obtain ⟨u, hu, rv⟩ := r.get ha
  have hp : ps[i]? = some y := by
   rw [← S.pre, List.getElem?_take_of_lt (by omega)]; exact h1
  have ndP : ps.Nodup := by rw [← S.pre]; exact S.nd.sublist (List.take_sublist _ _)
  refine ⟨u, rv, ?_⟩
  rcases S.par y (List.mem_of_getElem? hp) with k | k
  ·exact .inl ⟨k, q5m ndP hp hu k⟩
  ·obtain ⟨c, e⟩ := q6w (n := s.heap.objs.size + 1) k
   refine .inr ⟨.inl k, c, e, ?_⟩
   have q := x.cell y c e
   rw [q4Z ndP hp hu (by show scope.names.lookup y ≠ _; rw [k]; decide)] at q
   exact q
 ·exact e0.hok.fresh (Nat.le_of_lt (x.above y c (PySem.mem_of_lookup h)))
 ·unfold start
  show _ = N.length
  rw [List.length_append, List.length_map, List.length_replicate]
  omega
theorem z5E {CX : CXT} {P : Program} {w : World} {K : PySem.W.Frag} {mg : Str -> Option Value} {base : Heap} {k : Nat} {f : Addr} {name qual : Str} {params : Arguments} {body : List Stmt} {scope : Scope} {dV kV doc pm cdv ct oc : Value} {an od : Option Addr}
  {osl : Array (Option Value)} {N ps : List Str} {sp : Sp} (lk : K.lookup f = some ⟨oc, od, .func (PySem.W.fnOf name qual params body scope dV kV doc pm an cdv ct), osl⟩) (hcd : PySem.W.codeIn K cdv qual = true) (S : FnScope N ps scope)
  (len : ∀ vs H Q E, sp vs H Q E -> vs.length = ps.length)
  (hbody : ∀ (A : Around) (outer : List Env) (s : Shared) (H : Hp) (vs : List V) (Q : VK) (E : XK), Room k (A.deeper (envOfC qual scope s.heap.objs.size f cdv)) -> sp vs H Q E ->
   ∃ t, PSs (cxOf CX P w K mg base N qual scope f cdv A outer s H E) body t /\ t { nx := λ _ H' => Q .non H', rt := Q } (start N vs) H) :
  FnOk P w K mg base CX (k + 1) f (PySem.W.fnOf name qual params body scope dV kV doc pm an cdv ct) ps sp := by
 refine ⟨len, λ A outer s H args us vs Q E hr e0 hb r hsp => ?_⟩
 have hl := len _ _ _ _ hsp
 have KX : K.In s.heap := e0.mod.kin.keeps λ b o e => (e0.bs b o e).1
 have lim : s.heap.NoLimit := e0.mod.nolimit.keeps λ b o e => (e0.bs b o e).1
 have hkind : ∀ y ∈ ps.zip us, scope.names.lookup y.1 = some .local \/ (scope.names.lookup y.1 = some .cell /\ ((cellsFrom (s.heap.objs.size + 1) scope.names []).lookup y.1).isSome = true) := λ ⟨n, v⟩ hy => by
  rcases S.par n (List.of_mem_zip hy).1 with q | q
  ·exact .inl q
  ·exact .inr ⟨q, PySem.W.cellsFrom_some _ _ _ (.inl q)⟩
 refine codeAny_call_function hr.depth (KX _ _ lk) rfl S.co S.gen rfl (PySem.W.codeRec_of KX hcd) (hb _ _ _ _ ?_)
 refine wpAny_newFunctionEnv_cells S.kind hkind λ env he s1 x => ?_
 subst he
 refine ⟨lim.keeps x.toInCall.keep, codeAny_func ?_⟩
 obtain ⟨t, ht, hq⟩ := hbody A outer s H vs Q E (hr.deeper _) hsp
 have I : Inv (cxOf CX P w K mg base N qual scope f cdv A outer s H E) [] (start N vs) H s1 := q8S S hr.hd e0 hl r x
 refine wpAny_mono (ht [] s1 (start N vs) H _ I hq) (λ fl s' hs => ?_) λ e s' hs => hs
 have fin : ∀ {σ' : St} {H' : Hp} {v : V} {u : Value}, Inv (cxOf CX P w K mg base N qual scope f cdv A outer s H E) [] σ' H' s' -> RelV v u -> Q v H' -> CE outer P w H s Q u s' :=
  λ {σ' H' v u} J rv q => ⟨v, H', J.os, J.bare, J.base, J.hok, rv, q⟩
 cases fl with
 | ret u =>
  obtain ⟨v, σ', H', J, rv, q⟩ := hs
  exact fin J rv q
 | next =>
  obtain ⟨σ', H', J, q⟩ := hs
  exact fin (v := V.non) (u := Value.none) J rfl q
 | brk =>
  obtain ⟨_, _, _, q⟩ := hs
  exact False.elim q
 | cont =>
  obtain ⟨_, _, _, q⟩ := hs
  exact False.elim q
end L2
namespace L2
open PySem PySem.Spec PyProof.Rows
section
variable {X : Cx} {x : Str} {p pos : Pos} {e : Expr} {es : List Expr} {t : TA} {id T : String} {r : List V -> Hp -> VK -> Prop}
noncomputable def tCB (r : List V -> Hp -> VK -> Prop) (t : TA) : TE := λ σ H Q => t σ H λ vs H1 => r vs H1 Q
theorem q4s (hc : q2l X (.builtin id) r) (hg : Gl X x) (hm : X.mg x = none) (hv : bootBuiltins x = some (.builtin id)) (ha : PA X (e :: es) t) (hn : x ≠ "__name__" := by decide) (hdb : (x == ("__debug__" : Str)) = false := by decide)
  (he : starEach (e :: es) X.env = (false, eval e X.env) :: starEach es X.env := by rfl) (hpl : (backTo pos (starEach es X.env)).any (·.1) = false := by rfl) : PE X (.Call (.Name x p) (e :: es) [] pos) (tCB r t) := by
 intro pins s σ H Q I h
 refine wpAny_Call_Name_kw (q2q I hg hm hv ?_ hn hdb)
 exact PyProof.Rows.callWith_builtin1 (thn (ha pos pins s σ H _ I h) λ us s1 ⟨vs, H1, I1, r1, q1⟩ => hc pins s1 σ H1 vs us Q I1 r1 q1) he hpl
theorem q8m (hc : q2l X (.type T) r) (hg : Gl X x) (hm : X.mg x = none) (hv : bootBuiltins x = some (.type T)) (ha : PA X (e :: es) t) (hn : x ≠ "__name__" := by decide) (hdb : (x == ("__debug__" : Str)) = false := by decide)
  (he : starEach (e :: es) X.env = (false, eval e X.env) :: starEach es X.env := by rfl) (hpl : (backTo pos (starEach es X.env)).any (·.1) = false := by rfl) : PE X (.Call (.Name x p) (e :: es) [] pos) (tCB r t) := by
 intro pins s σ H Q I h
 refine wpAny_Call_Name_kw (q2q I hg hm hv ?_ hn hdb)
 exact PyProof.Rows.callWith_type1 (thn (ha pos pins s σ H _ I h) λ us s1 ⟨vs, H1, I1, r1, q1⟩ => hc pins s1 σ H1 vs us Q I1 r1 q1) he hpl
end
end L2
namespace HT
open PySem PyProof.Rows
section
open PySem.SeqAt
open PySem.AutoSeq1 (wpAny_loadPart')
open PySem.MeetsSeq PySem.MeetsSeq2 PySem.MeetsSeq3
end
section
variable {prog : Program} {w : World} {A : Around} {E : Value -> Shared -> Prop} {s : Shared}
noncomputable def sIx (n d : Nat) : Option Int -> Nat
 | none => d
 | some v => if v < 0 then (v + (n : Int)).toNat else min v.toNat n
theorem z3U (n d : Nat) (hd : d <= n) (o : Option Int) : sIx n d o <= n := by
 cases o with
 | none => exact hd
 | some v =>
  show (if v < 0 then (v + (n : Int)).toNat else min v.toNat n) <= n
  by_cases hv : v < 0
  ·rw [if_pos hv]; omega
  ·rw [if_neg hv]; exact Nat.min_le_right _ _
theorem q8J (v : Int) (n d : Nat) : (if v < 0 then max (v + (n : Int)) 0 else min v (n : Int)) = ((sIx n d (some v) : Nat) : Int) := by
 show (if v < 0 then max (v + (n : Int)) 0 else min v (n : Int)) = (((if v < 0 then (v + (n : Int)).toNat else min v.toNat n) : Nat) : Int)
 by_cases hv : v < 0
 ·simp only [if_pos hv]; omega
 ·simp only [if_neg hv]; omega
theorem q7f (lo hi : Option Int) (n : Nat) : Builtin.Slice.sliceAdjust lo hi 1 (n : Int) = (((sIx n 0 lo : Nat) : Int), ((sIx n n hi : Nat) : Int)) := by
 have h1 : ¬ ((1 : Int) < 0) := by omega
 unfold Builtin.Slice.sliceAdjust
 simp only [h1, if_false]
 refine Prod.ext ?_ ?_
 ·cases lo with
  | none => rfl
  | some v => exact q8J v n 0
 ·cases hi with
  | none => rfl
  | some v => exact q8J v n n
theorem q7b (i j : Nat) : Builtin.Slice.slicePlaces (i : Int) (j : Int) 1 = j - i := by
 unfold Builtin.Slice.slicePlaces
 have h1 : (1 : Int) > 0 := by omega
 simp only [h1, if_true, Int.ediv_one]
 split <;> omega
theorem q4b {v : Value} {o : Option Int} {Q : Option Int -> Shared -> Prop} (p : IsPart v o) (h : Q o s) : wpAny (model prog w) A (Builtin.Slice.slicePartIndex v) Q E s := by
 cases p with
 | none => exact slicePart_none h
 | int i t => exact slicePart_int h
theorem q3g {sl : Addr} {vl vu : Value} {lo hi : Option Int} {n : Nat} {Q : Int × Int × Nat -> Shared -> Prop} (hs : s.heap.IsSliceOf sl vl vu .none) (pl : IsPart vl lo) (pu : IsPart vu hi)
  (h : Q (((sIx n 0 lo : Nat) : Int), 1, sIx n n hi - sIx n 0 lo) s) : wpAny (model prog w) A (Builtin.Slice.sliceApplied (.ref sl) (pure (n : Int))) Q E s := by
 obtain ⟨os, hos, hcs, hds⟩ := id hs
 unfold Builtin.Slice.sliceApplied Builtin.Slice.sliceFields
 refine wpAny_bind (wpAny_bind (wpAny_field hos hds (x := vl) rfl (wpAny_bind (wpAny_field hos hds (x := vu) rfl (wpAny_bind (wpAny_field hos hds (x := .none) rfl (wpAny_pure ?_)))))))
 refine wpAny_bind (slicePart_none ?_)
 show wpAny _ _ (if ((1 : Int) == 0) = true then _ else _) _ _ s
 rw [if_neg (by decide)]
 refine wpAny_bind (q4b pl (wpAny_bind (q4b pu (wpAny_bind (wpAny_pure ?_)))))
 show wpAny _ _ (match Builtin.Slice.sliceAdjust lo hi 1 (n : Int) with | (lo, hi) => pure (lo, (1 : Int), Builtin.Slice.slicePlaces lo hi 1)) _ _ s
 rw [q7f lo hi n]
 show wpAny _ _ (pure (((sIx n 0 lo : Nat) : Int), (1 : Int), Builtin.Slice.slicePlaces ((sIx n 0 lo : Nat) : Int) ((sIx n n hi : Nat) : Int) 1)) _ _ s
 rw [q7b]
 exact wpAny_pure h
theorem z0b (xs : Array Value) (i k : Nat) : ((List.range k).filterMap λ (m : Nat) => xs[((i : Int) + (m : Int) * 1).toNat]?).toArray = ((xs.toList.drop i).take k).toArray := by
 have e : (λ (m : Nat) => xs[((i : Int) + (m : Int) * 1).toNat]?) = λ m => xs[i + m]? := by
  funext m
  have : ((i : Int) + (m : Int) * 1).toNat = i + m := by omega
  rw [this]
 rw [e]
 have := pick_run xs i k
 rw [List.filterMap_map] at this
 have e2 : ((λ x => xs[x]?) ∘ λ x => i + x) = λ m => xs[i + m]? := rfl
 rw [e2] at this
 rw [this]
theorem getItem_tuple_cut {t sl : Addr} {items : Array Value} {vl vu : Value} {lo hi : Option Int} {Q : Value -> Shared -> Prop} (ht : IsTup s.heap t items) (hs : s.heap.IsSliceOf sl vl vu .none) (pl : IsPart vl lo) (pu : IsPart vu hi)
  (hw : ¬ (sIx items.size 0 lo = 0 /\ sIx items.size items.size hi = items.size))
  (h : Q (.ref s.heap.objs.size) { s with heap := s.heap.push { cls := .type "tuple", data := .seq ((items.toList.drop (sIx items.size 0 lo)).take (sIx items.size items.size hi - sIx items.size 0 lo)).toArray } })
  (hsz : items.size <= sizeLine) : wpAny (model prog w) A (getItem (.ref t) (.ref sl)) Q E s := by
 have htake : sizeOk (.seq ((items.toList.drop (sIx items.size 0 lo)).take (sIx items.size items.size hi - sIx items.size 0 lo)).toArray) := by
  show ((items.toList.drop (sIx items.size 0 lo)).take (sIx items.size items.size hi - sIx items.size 0 lo)).toArray.size <= sizeLine
  rw [List.size_toArray, List.length_take, List.length_drop, Array.length_toList]
  omega
 have hj : sIx items.size items.size hi <= items.size := z3U _ _ (Nat.le_refl _) hi
 obtain ⟨os, hos, hcs, hds⟩ := id hs
 have hTs : s.TypeIs (.ref sl) "slice" := ⟨os, hos, hcs⟩
 unfold getItem
 try with_reducible refine wpAny_holding ?_
 first | refine wpAny_bind (wpAny_pure ?_) | skip
 refine wpAny_bind (wpAny_sequenceKey ht.typeIs (by decide) ?_)
 refine wpAny_bind (wpAny_callSpecial?_slot (name := Str.ofString "__getitem__") ht.typeIs PyProof.Rows.slot_tuple_getitem
  (wpAny_call_entry PyProof.Rows.slot_tuple_getitem ht.typeIs entry_tuple_getitem ?_ (args_tuple_getitem _ _)))
 show wpAny _ _ (Builtin.Tuple.tupleItemsOf (.ref t) >>= _) _ _ s
 refine wpAny_bind (tupleItemsOf_ ht ?_)
 refine wpAny_bind (wpAny_typeOf hTs ?_)
 rw [if_pos (by decide)]
 refine wpAny_bind (q3g hs pl pu ?_)
 have hno : ¬ ((((sIx items.size 0 lo : Nat) : Int) == 0 && (1 : Int) == 1 && (sIx items.size items.size hi - sIx items.size 0 lo) == items.size) = true) := by
  intro q
  rw [Bool.and_eq_true, Bool.and_eq_true] at q
  have q1 : ((sIx items.size 0 lo : Nat) : Int) = 0 := eq_of_beq q.1.1
  have q2 : sIx items.size items.size hi - sIx items.size 0 lo = items.size := eq_of_beq q.2
  exact hw ⟨by omega, by omega⟩
 show wpAny _ _ (if (((sIx items.size 0 lo : Nat) : Int) == 0 && (1 : Int) == 1 && (sIx items.size items.size hi - sIx items.size 0 lo) == items.size) = true then _ else _) _ _ s
 rw [if_neg hno, z0b]
 first
  | exact wpAny_bind (m := Builtin.Tuple.tupleExact _) (wpAny_newObj_type (wpAny_pure ⟨_, rfl, wpAny_pure h⟩) htake)
  | exact wpAny_bind (m := Builtin.Tuple.tupleExact _) (wpAny_newObj_type (wpAny_bind (wpAny_pure (wpAny_pure ⟨_, rfl, wpAny_pure h⟩))) htake)
  | exact wpAny_bind (wpAny_bind (m := Builtin.Tuple.tupleExact _) (wpAny_newObj_type (wpAny_pure (wpAny_pure ⟨_, rfl, wpAny_pure h⟩)) htake))
  | exact wpAny_bind (wpAny_bind (m := Builtin.Tuple.tupleExact _) (wpAny_newObj_type (wpAny_pure ⟨_, rfl, wpAny_pure h⟩) htake))
end
end HT
namespace L2
open PySem PySem.Spec PyProof.Rows
noncomputable abbrev TO := St -> Hp -> (Option Int -> Hp -> Prop) -> Prop
noncomputable def PO (X : Cx) (e : Option Expr) (t : TO) : Prop :=
 ∀ (pins : List (Addr × Obj)) (s : Shared) (σ : St) (H : Hp) (Q : Option Int -> Hp -> Prop), Inv X pins σ H s -> t σ H Q ->
  wpAny (model X.prog X.w) X.A (evalPart e X.env) (λ u s' => ∃ o H', Inv X pins σ H' s' /\ IsPart u o /\ Q o H') X.xe s
noncomputable def z2i : TO := λ _ H Q => Q none H
noncomputable def z6t (t : TE) : TO := λ σ H Q => t σ H λ x H1 => ∃ i, x = .int i /\ Q (some i) H1
section
variable {X : Cx} {e : Expr} {te : TE} {lo hi : Option Expr} {tl th : TO} {pos p2 : Pos}
theorem q2U : PO X none z2i := by
 intro pins s σ H Q I h
 rw [evalPart_none]
 exact wpAny_pure ⟨none, H, I, .none, h⟩
theorem q8n (h : PE X e te) : PO X (some e) (z6t te) := by
 intro pins s σ H Q I hw
 rw [evalPart_some]
 refine thn (h pins s σ H _ I hw) λ u s1 ⟨x, H1, I1, r1, q1⟩ => ?_
 obtain ⟨i, rfl, q⟩ := q1
 obtain ⟨t, rfl⟩ := r1
 exact ⟨some i, H1, I1, .int i t, q⟩
noncomputable def SlR (X : Cx) (r : V -> Option Int -> Option Int -> Hp -> VK -> Prop) : Prop :=
 ∀ (pins : List (Addr × Obj)) (s : Shared) (σ : St) (H : Hp) (x : V) (v vl vu : Value) (lo hi : Option Int) (sl : Addr) (Q : VK), Inv X pins σ H s -> RelV x v -> s.heap.IsSliceOf sl vl vu .none -> IsPart vl lo -> IsPart vu hi -> r x lo hi H Q ->
  ∃ T id, typeLookup (.type T) "__getitem__" = pure (some (.builtin id)) /\ s.TypeIs v T /\ wpAny (model X.prog X.w) X.A (getItem v (.ref sl)) (EP X pins σ Q) X.xe s
theorem SlR.or {r r' : V -> Option Int -> Option Int -> Hp -> VK -> Prop} (h : SlR X r) (h' : SlR X r') : SlR X (λ x lo hi H Q => r x lo hi H Q \/ r' x lo hi H Q) := by
 intro pins s σ H x v vl vu lo hi sl Q I rx hs pl pu q
 rcases q with q | q
 ·exact h pins s σ H x v vl vu lo hi sl Q I rx hs pl pu q
 ·exact h' pins s σ H x v vl vu lo hi sl Q I rx hs pl pu q
noncomputable def tSl (r : V -> Option Int -> Option Int -> Hp -> VK -> Prop) (te : TE) (tl th : TO) : TE := λ σ H Q => te σ H λ x H1 => tl σ H1 λ l H2 => th σ H2 λ u H3 => r x l u H3 Q
theorem q1d {r : V -> Option Int -> Option Int -> Hp -> VK -> Prop} (hr : SlR X r) (he : PE X e te) (hl : PO X lo tl) (hu : PO X hi th) : PE X (.Subscript e (.Slice lo hi none p2) pos) (tSl r te tl th) := by
 intro pins s σ H Q I h
 refine Subscript_ (thn (he pins s σ H _ I h) λ v s1 ⟨x, H1, I1, r1, q1⟩ => ?_)
 refine wpAny_Slice (thn (hl pins s1 σ H1 _ I1 q1) λ vl s2 ⟨l, H2, I2, pl, q2⟩ => thn (hu pins s2 σ H2 _ I2 q2) λ vu s3 ⟨u, H3, I3, pu, q3⟩ => ?_)
 rw [evalPart_none]
 refine wpAny_pure ?_
 have I4 : Inv X pins σ H3 { s3 with heap := s3.heap.push { cls := .type "slice", data := .fields #[vl, vu, .none] } } := I3.kept (t' := s3.toks) λ b ob q => Heap.get?_push_of_some _ q
 obtain ⟨T, id, hT, ht, hg⟩ := hr pins { s3 with heap := s3.heap.push { cls := .type "slice", data := .fields #[vl, vu, .none] } } σ H3 x v vl vu l u s3.heap.objs.size Q I4 r1 (Heap.IsSliceOf.new ..) pl pu q3
 show wpAny (model X.prog X.w) X.A (subscriptTail e (.Slice lo hi none p2) v (.ref s3.heap.objs.size)) (EP X pins σ Q) X.xe { s3 with heap := s3.heap.push { cls := .type "slice", data := .fields #[vl, vu, .none] } }
 exact tail_any (ops := [.ref s3.heap.objs.size, v]) ht hT hg (by with_unfolding_all rfl)
noncomputable def cutV (xs : List V) (lo hi : Option Int) : List V := (xs.drop (HT.sIx xs.length 0 lo)).take (HT.sIx xs.length xs.length hi - HT.sIx xs.length 0 lo)
theorem q3C (xs : List V) (lo hi : Option Int) : (cutV xs lo hi).length <= xs.length := by
 unfold cutV
 rw [List.length_take, List.length_drop]
 omega
noncomputable def rSlT (K : PySem.W.Frag) : V -> Option Int -> Option Int -> Hp -> VK -> Prop := λ x lo hi H Q => ∃ a xs, x = .ref a /\ SqT K H a xs /\
 ¬ (HT.sIx xs.length 0 lo = 0 /\ HT.sIx xs.length xs.length hi = xs.length) /\ ∀ p, H p = none -> Q (.ref p) (upd H p (.tup (cutV xs lo hi)))
theorem z4C : SlR X (rSlT X.K) := by
 intro pins s σ H x v vl vu lo hi sl Q I rx hs pl pu h
 obtain ⟨a, xs, rfl, hx, hw, q⟩ := h
 cases rx
 obtain ⟨its, r, ht, hz⟩ := I.tuple hx
 have hlen : its.toArray.size = xs.length := by rw [List.size_toArray]; exact r.length.symm
 refine ⟨"tuple", _, PyProof.Rows.slot_tuple_getitem.lookup, ht.typeIs, ?_⟩
 refine HT.getItem_tuple_cut ht hs pl pu (by rw [hlen]; exact hw) ?_ (by rw [hlen]; exact hz)
 rw [hlen]
 refine ⟨.ref s.heap.objs.size, _, I.laid (t' := s.toks) (o := .tup (cutV xs lo hi)) (λ b ob q => Heap.get?_push_of_some _ q) (Nat.le_refl _) ?_, rfl, q _ (I.hok.fresh (Nat.le_refl _))⟩
 exact ⟨Nat.le_trans (q3C xs lo hi) hz, _, (r.drop (HT.sIx xs.length 0 lo)).take (HT.sIx xs.length xs.length hi - HT.sIx xs.length 0 lo), q2Z.new _ _⟩
end
end L2
namespace L2
open PySem PySem.Spec PyProof.Rows
noncomputable def ixN (n : Nat) (i : Int) : Option Nat := if 0 <= i then (if i < n then some i.toNat else none) else if -(n : Int) <= i then some (i + n).toNat else none
noncomputable def atI {α : Type} (xs : List α) (i : Int) : Option α := (ixN xs.length i).bind λ j => xs[j]?
theorem q8v {n : Nat} {i : Int} {j : Nat} (h : ixN n i = some j) : seqIndex? i n = some j /\ j < n /\ -(n : Int) <= i /\ i < n := by
 unfold ixN at h
 by_cases h0 : 0 <= i
 ·rw [if_pos h0] at h
  by_cases h1 : i < n
  ·rw [if_pos h1] at h
   have e : i.toNat = j := Option.some.inj h
   exact ⟨by rw [seqIndex_of h0 h1, e], by omega, by omega, h1⟩
  ·rw [if_neg h1] at h; cases h
 ·rw [if_neg h0] at h
  by_cases h1 : -(n : Int) <= i
  ·rw [if_pos h1] at h
   have e : (i + n).toNat = j := Option.some.inj h
   exact ⟨by rw [seqIndex_neg (by omega) h1, e], by omega, h1, by omega⟩
  ·rw [if_neg h1] at h; cases h
theorem q5G {α : Type} {xs : List α} {i : Int} {v : α} (h : atI xs i = some v) : ∃ j, seqIndex? i xs.length = some j /\ xs[j]? = some v /\ j < xs.length /\ -(xs.length : Int) <= i /\ i < xs.length := by
 unfold atI at h
 cases e : ixN xs.length i with
 | none => rw [e] at h; cases h
 | some j =>
  rw [e] at h
  obtain ⟨h1, h2, h3, h4⟩ := q8v e
  exact ⟨j, h1, h, h2, h3, h4⟩
noncomputable def z2U (b : Expr) : Prop := ∀ o i, subscripted b false o i = operate [o, i] (getItem o i)
noncomputable def IxR (X : Cx) (r : R2) : Prop :=
 ∀ (value slice : Expr) (pins : List (Addr × Obj)) (s : Shared) (σ : St) (H : Hp) (x y : V) (v u : Value) (Q : VK), Inv X pins σ H s -> RelV x v -> RelV y u -> r x y H Q ->
  subscripted slice false v u = operate [v, u] (getItem v u) -> wpAny (model X.prog X.w) X.A (subscriptTail value slice v u) (EP X pins σ Q) X.xe s
noncomputable def MtR (X : Cx) (id : String) (r : V -> List V -> Hp -> VK -> Prop) : Prop :=
 ∀ (pins : List (Addr × Obj)) (s : Shared) (σ : St) (H : Hp) (x : V) (xs : List V) (v : Value) (us : List Value) (Q : VK), Inv X pins σ H s -> RelV x v -> Vals xs us -> r x xs H Q ->
  wpAny (model X.prog X.w) X.A (call (.builtin id) (v :: us)) (EP X pins σ Q) X.xe s
section
variable {X : Cx} {a b : Expr} {ta tb : TE} {pos : Pos}
theorem IxR.or {r r' : R2} (h : IxR X r) (h' : IxR X r') : IxR X (λ x y H Q => r x y H Q \/ r' x y H Q) := by
 intro value slice pins s σ H x y v u Q I rx ry q hs
 rcases q with q | q
 ·exact h value slice pins s σ H x y v u Q I rx ry q hs
 ·exact h' value slice pins s σ H x y v u Q I rx ry q hs
theorem z6n {r : R2} (hr : IxR X r) (ha : PE X a ta) (hb : PE X b tb) (hs : z2U b) : PE X (.Subscript a b pos) (tOp r ta tb) := by
 intro pins s σ H Q I h
 exact Subscript_ (binT ha hb I h λ v u s2 x y H2 I2 rx ry q => hr a b pins s2 σ H2 x y v u Q I2 rx ry q (hs _ _))
noncomputable def rIxL (K : PySem.W.Frag) : R2 := λ x y H Q => ∃ p xs i v, x = .ref p /\ y = .int i /\ SqL K H p xs /\ atI xs i = some v /\ Q v H
noncomputable def rIxT (K : PySem.W.Frag) : R2 := λ x y H Q => ∃ p xs i v, x = .ref p /\ y = .int i /\ SqT K H p xs /\ atI xs i = some v /\ Q v H
noncomputable def rIxS : R2 := λ x y H Q => ∃ z i c, x = .str z /\ y = .int i /\ z.length <= sizeLine /\ atI z.cps.toList i = some c /\ Q (.str ⟨#[c]⟩) H
theorem z2V : IxR X (rIxL X.K) := by
 intro value slice pins s σ H x y v u Q I rx ry h hs
 obtain ⟨p, xs, i, z, rfl, rfl, hq, he, q⟩ := h
 cases rx
 obtain ⟨t, rfl⟩ := ry
 obtain ⟨its, r, pl, hz⟩ := I.list hq
 obtain ⟨j, h1, h2, h3, h4, h5⟩ := q5G he
 obtain ⟨w, ew, rw'⟩ := r.get h2
 have hl := r.length
 have hn := q3I
 have fin : EP X pins σ Q w s := ⟨z, H, I, rw', q⟩
 by_cases h0 : 0 <= i
 ·have hj : i.toNat = j := by
   rw [seqIndex_of h0 h5] at h1
   exact Option.some.inj h1
  exact item_listR pl.isList h0 (by omega) (by rw [hj]; simpa using ew) fin hs
 ·have hj : (i + (its.toArray.size : Int)).toNat = j := by
   rw [seqIndex_neg (by omega) h4] at h1
   rw [List.size_toArray, ← hl]
   exact Option.some.inj h1
  exact subscriptTail_builtinR (x := w) pl.isList.typeIs slot_list_getitem.lookup
   (wpAny_getItem_list_neg (Q := λ r s' => r = w /\ EP X pins σ Q r s') pl.isList (by omega) (by rw [List.size_toArray] <;> omega) (by omega) (by rw [hj]; simpa using ew) ⟨rfl, fin⟩) hs
theorem z4M : IxR X (rIxT X.K) := by
 intro value slice pins s σ H x y v u Q I rx ry h hs
 obtain ⟨p, xs, i, z, rfl, rfl, hq, he, q⟩ := h
 cases rx
 obtain ⟨t, rfl⟩ := ry
 obtain ⟨its, r, pl, hz⟩ := I.tuple hq
 obtain ⟨j, h1, h2, h3, h4, h5⟩ := q5G he
 obtain ⟨w, ew, rw'⟩ := r.get h2
 have hl := r.length
 have hn := q3I
 have fin : EP X pins σ Q w s := ⟨z, H, I, rw', q⟩
 exact subscriptTail_builtinR (x := w) pl.typeIs slot_tuple_getitem.lookup
  (getItem_tuple (j := j) (Q := λ r s' => r = w /\ EP X pins σ Q r s') pl (by omega) (by omega) (by rw [List.size_toArray, ← hl]; exact h1) (by simpa using ew) ⟨rfl, fin⟩) hs
theorem z5d : IxR X rIxS := by
 intro value slice pins s σ H x y v u Q I rx ry h hs
 obtain ⟨z, i, c, rfl, rfl, hz, he, q⟩ := h
 obtain ⟨t, rfl⟩ := rx
 obtain ⟨t', rfl⟩ := ry
 obtain ⟨j, h1, h2, h3, h4, h5⟩ := q5G he
 have hl : z.cps.toList.length = z.length := by simp [Str.length]
 rw [hl] at h1 h4 h5
 have hn := q3I
 exact tail_any (typeIs_str s z t) slot_str_getitem.lookup (getItem_str (c := c) (by
  have e1 : decide (i < -(2 ^ 63 : Int)) = false := decide_eq_false (by omega)
  have e2 : decide (i ≥ 2 ^ 63) = false := decide_eq_false (by omega)
  rw [e1, e2, Bool.or_false]) (by rw [h1]; simpa using h2) ⟨.str ⟨#[c]⟩, H, I.tok _, ⟨_, rfl⟩, q⟩) hs
noncomputable def rIx (K : PySem.W.Frag) : R2 := λ x y H Q => rIxL K x y H Q \/ rIxT K x y H Q \/ rIxS x y H Q
theorem z4A : IxR X (rIx X.K) := z2V.or (z4M.or z5d)
theorem q6L (its : List Value) (n j : Nat) (u : Value) : Obj.mapSeq (·.setIfInBounds j u) { cls := .type "list", data := .seq its.toArray n } = { cls := .type "list", data := .seq (its.set j u).toArray n } := by
 simp [Obj.mapSeq]
theorem Inv.lst {pins : List (Addr × Obj)} {σ : St} {H : Hp} {s : Shared} {p : Addr} {xs : List V} (I : Inv X pins σ H s) (h : H p = some (.lst xs)) :
  ∃ (its : List Value) (n : Nat), Vals xs its /\ s.heap.get? p = some { cls := .type "list", data := .seq its.toArray n } /\ xs.length <= sizeLine := by
 obtain ⟨z, its, n, r, e⟩ := I.hok p _ h
 exact ⟨its, n, r, e, z⟩
theorem Inv.lstUpd {pins : List (Addr × Obj)} {σ : St} {H : Hp} {s : Shared} {p : Addr} {xs ys : List V} {its its' : List Value} {n n' : Nat} {f : Obj -> Obj} (I : Inv X pins σ H s) (h : H p = some (.lst xs))
  (ho : s.heap.get? p = some { cls := .type "list", data := .seq its.toArray n }) (hf : f { cls := .type "list", data := .seq its.toArray n } = { cls := .type "list", data := .seq its'.toArray n' }) (r : Vals ys its') (hz : ys.length <= sizeLine) (t : Nat) :
  Inv X pins σ (upd H p (.lst ys)) { s with heap := s.heap.update p f, toks := t } := by
 have e : (s.heap.update p f).get? p = some { cls := .type "list", data := .seq its'.toArray n' } := by
  rw [Heap.get?_update_self f ho (by rw [hf] <;> rfl), hf]
 refine I.write (x := p) (e := p) (by rw [h]; trivial) (.inl rfl) (λ b u hb q => (Heap.get?_update_other _ _ (Ne.symm hb)).trans q) ⟨_, e⟩ ?_
 exact ⟨hz, its', n', r, e⟩
noncomputable def z5w : V -> V -> V -> Hp -> (Hp -> Prop) -> Prop := λ o i v H Q => ∃ p xs k j, o = .ref p /\ i = .int k /\ H p = some (.lst xs) /\ ixN xs.length k = some j /\ Q (upd H p (.lst (xs.set j v)))
theorem z0f : PSet X z5w := by
 intro pins s σ H o i v ov iv u Q I ro ri rv h
 obtain ⟨p, xs, k, j, rfl, rfl, hp, hj, q⟩ := h
 cases ro
 obtain ⟨t, rfl⟩ := ri
 obtain ⟨its, n, r, ho, hz⟩ := I.lst hp
 obtain ⟨h1, h2, h3, h4⟩ := q8v hj
 have hl := r.length
 have hn := q3I
 have I' : Inv X pins σ (upd H p (.lst (xs.set j v))) { s with heap := s.heap.update p (Obj.mapSeq (·.setIfInBounds j u)) } :=
  I.lstUpd hp ho (q6L its n j u) (r.set rv j) (by rw [List.length_set]; exact hz) s.toks
 by_cases h0 : 0 <= k
 ·have hk : k.toNat = j := by
   rw [seqIndex_of h0 h4] at h1
   exact Option.some.inj h1
  exact PySem.W.ki_setAt ho h0 (by omega) (by rw [List.size_toArray, ← hl]; exact h4) (by rw [hk]; exact ⟨_, I', q⟩)
 ·have hk : (k + (its.toArray.size : Int)).toNat = j := by
   rw [seqIndex_neg (by omega) h3] at h1
   rw [List.size_toArray, ← hl]
   exact Option.some.inj h1
  exact PySem.W.ki_setBack ho (by omega) (by rw [List.size_toArray, ← hl]; exact h3) (by omega) (by rw [hk]; exact ⟨_, I', q⟩)
theorem q5c (lo hi : Option Int) (n : Nat) : (sliceBounds lo hi none n).1 = ((HT.sIx n 0 lo : Nat) : Int) /\ (sliceBounds lo hi none n).2.1 = ((HT.sIx n n hi : Nat) : Int) /\ (sliceBounds lo hi none n).2.2 = 1 := by
 refine ⟨?_, ?_, rfl⟩
 ·cases lo with
  | none => simp [sliceBounds, HT.sIx]
  | some i =>
   simp only [sliceBounds, HT.sIx, Option.getD_none, show (1 : Int) > 0 by decide, if_true]
   by_cases h : i < 0
   ·simp only [h, if_true] <;> omega
   ·simp only [h, if_false] <;> omega
 ·cases hi with
  | none => simp [sliceBounds, HT.sIx]
  | some i =>
   simp only [sliceBounds, HT.sIx, Option.getD_none, show (1 : Int) > 0 by decide, if_true]
   by_cases h : i < 0
   ·simp only [h, if_true] <;> omega
   ·simp only [h, if_false] <;> omega
theorem q4z (its : List Value) (lo hi : Option Int) : slicePick its.toArray lo hi none = ((its.drop (HT.sIx its.length 0 lo)).take (HT.sIx its.length its.length hi - HT.sIx its.length 0 lo)).toArray := by
 obtain ⟨h1, h2, h3⟩ := q5c lo hi its.toArray.size
 unfold slicePick
 rw [h1, h2, h3]
 simp only [sliceRange_one, pick_run, List.size_toArray] <;> rfl
noncomputable def rSlL (K : PySem.W.Frag) : V -> Option Int -> Option Int -> Hp -> VK -> Prop := λ x lo hi H Q => ∃ a xs, x = .ref a /\ SqL K H a xs /\ ∀ p, H p = none -> Q (.ref p) (upd H p (.lst (cutV xs lo hi)))
theorem z1K : SlR X (rSlL X.K) := by
 intro pins s σ H x v vl vu lo hi sl Q I rx hs pl pu h
 obtain ⟨a, xs, rfl, hx, q⟩ := h
 cases rx
 obtain ⟨its, r, ht, hz⟩ := I.list hx
 have hlen := r.length
 refine ⟨"list", _, slot_list_getitem.lookup, ht.isList.typeIs, ?_⟩
 refine wpAny_getItem_list_slice ht.isList hs pl pu .none (by simp) ?_ (by rw [List.size_toArray] <;> omega)
 rw [q4z, ← hlen]
 refine ⟨.ref s.heap.objs.size, _, I.laid (t' := s.toks) (o := .lst (cutV xs lo hi)) (λ b ob q => Heap.get?_push_of_some _ q) (Nat.le_refl _) ?_, rfl, q _ (I.hok.fresh (Nat.le_refl _))⟩
 exact ⟨Nat.le_trans (q3C xs lo hi) hz, _, 0, (r.drop (HT.sIx xs.length 0 lo)).take (HT.sIx xs.length xs.length hi - HT.sIx xs.length 0 lo), Heap.get?_push_size _ rfl⟩
theorem q1T : q2l X (.builtin "len") (λ xs H Q => ∃ p ys, xs = [.ref p] /\ (SqL X.K H p ys \/ SqT X.K H p ys) /\ Q (.int ys.length) H) := by
 intro pins s σ H xs us Q I r h
 obtain ⟨p, ys, rfl, hq, q⟩ := h
 obtain ⟨u, rfl, rx⟩ := q7h r
 cases rx
 have hn := q3I
 rcases hq with hq | hq
 ·obtain ⟨its, r', pl, hz⟩ := I.list hq
  have hlen := r'.length
  exact Calls.call_len_list pl.isList (by simp only [List.size_toArray] <;> omega) ⟨.int ys.length, H, I.tok _, ⟨s.toks + 1, by rw [List.size_toArray, hlen]⟩, q⟩
 ·obtain ⟨its, r', pl, hz⟩ := I.tuple hq
  have hlen := r'.length
  exact len_tuple pl (by simp only [List.size_toArray] <;> omega) ⟨.int ys.length, H, I.tok _, ⟨s.toks + 1, by rw [List.size_toArray, hlen]⟩, q⟩
theorem q4P : q2l X (.builtin "len") (λ xs H Q => ∃ z, xs = [.str z] /\ z.length <= sizeLine /\ Q (.int z.length) H) := by
 intro pins s σ H xs us Q I r h
 obtain ⟨z, rfl, hz, q⟩ := h
 obtain ⟨u, rfl, t, rfl⟩ := q7h r
 have hn := q3I
 exact len_str (by omega) ⟨.int z.length, H, I.tok _, ⟨_, rfl⟩, q⟩
theorem q1W : q2l X (.type "list") (λ xs H Q => ∃ p ys, xs = [.ref p] /\ (SqL X.K H p ys \/ SqT X.K H p ys) /\ ∀ l, H l = none -> Q (.ref l) (upd H l (.lst ys))) := by
 intro pins s σ H xs us Q I r h
 obtain ⟨p, ys, rfl, hq, q⟩ := h
 obtain ⟨u, rfl, rx⟩ := q7h r
 cases rx
 have fin : ∀ (its : List Value), Vals ys its -> ys.length <= sizeLine -> ∀ (h' : Heap) (c' : Nat), (∀ b o', s.heap.get? b = some o' -> h'.get? b = some o') ->
   h'.get? s.heap.objs.size = some { cls := .type "list", dict := none, data := .seq its.toArray c', slots := #[] } -> EP X pins σ Q (.ref s.heap.objs.size) { s with heap := h' } := λ its r' hz h' c' kp e =>
  ⟨.ref s.heap.objs.size, _, I.laid (t' := s.toks) kp (Nat.le_refl _) (show q0Y X.prog X.w _ h' _ (.lst ys) from ⟨hz, its, c', r', e⟩), rfl, q _ (I.hok.fresh (Nat.le_refl _))⟩
 rcases hq with hq | hq
 ·obtain ⟨its, r', pl, hz⟩ := I.list hq
  have hlen := r'.length
  obtain ⟨o, ho, hc, n, hd⟩ := pl.isList
  exact call_list_seq p (.inl rfl) ho hc hd (λ h' c' kp e => fin its r' hz h' c' kp e) (by simp only [List.size_toArray] <;> omega)
 ·obtain ⟨its, r', pl, hz⟩ := I.tuple hq
  have hlen := r'.length
  obtain ⟨o, ho, hc, n, hd⟩ := pl
  exact call_list_seq p (.inr rfl) ho hc hd (λ h' c' kp e => fin its r' hz h' c' kp e) (by simp only [List.size_toArray] <;> omega)
noncomputable def tyV (K : PySem.W.Frag) (T : String) (x : V) (H : Hp) : Prop := match x with
 | .str _ => T = "str"
 | .int _ => T = "int"
 | .ref p => (T = "list" /\ ∃ xs, SqL K H p xs) \/ (T = "tuple" /\ ∃ o, K.lookup p = some o /\ o.cls = .type "tuple" /\ o.dict = none) \/
   (T = "dict" /\ ((∃ kvs, H p = some (.dK kvs)) \/ ∃ kvs, H p = some (.dT kvs))) \/ (T = "set" /\ ∃ S n, H p = some (.set S n))
 | _ => False
theorem z3h {pins : List (Addr × Obj)} {σ : St} {H : Hp} {s : Shared} {T : String} {x : V} {v : Value} (I : Inv X pins σ H s) (r : RelV x v) (ty : tyV X.K T x H) :
  s.TypeIs v T /\ ∀ a, v = .ref a -> ∃ ob, s.heap.get? a = some ob /\ ob.dict = none := by
 cases x with
 | str z =>
  obtain ⟨t, rfl⟩ := r
  cases (show T = "str" from ty)
  exact ⟨typeIs_str s z t, λ _ e => nomatch e⟩
 | int i =>
  obtain ⟨t, rfl⟩ := r
  cases (show T = "int" from ty)
  exact ⟨typeIs_int s i t, λ _ e => nomatch e⟩
 | ref p =>
  cases r
  rcases ty with ⟨rfl, xs, hq⟩ | ⟨rfl, o, hk, hc, hd⟩ | ⟨rfl, hk⟩ | ⟨rfl, S, n, hk⟩
  ·obtain ⟨its, _, pl, _⟩ := I.list hq
   refine ⟨pl.isList.typeIs, λ a e => ?_⟩
   cases e
   obtain ⟨o, n, e, c, hd, _⟩ := pl
   exact ⟨o, e, hd⟩
  ·refine ⟨⟨o, I.kIn p o hk, hc⟩, λ a e => ?_⟩
   cases e
   exact ⟨o, I.kIn _ o hk, hd⟩
  ·have z : ∃ o, s.heap.get? p = some o /\ o.ExactDict := by
    rcases hk with ⟨kvs, hk⟩ | ⟨kvs, hk⟩
    ·obtain ⟨_, _, _, _, o, _, _, e, ex, _⟩ := I.hok p _ hk
     exact ⟨o, e, ex⟩
    ·obtain ⟨_, _, _, _, o, _, _, e, ex, _⟩ := I.hok p _ hk
     exact ⟨o, e, ex⟩
   obtain ⟨o, e, ex⟩ := z
   refine ⟨⟨o, e, ex.1⟩, λ a e2 => ?_⟩
   cases e2
   exact ⟨o, e, ex.2.1⟩
  ·obtain ⟨o, _, _, _, e, ex, _⟩ := I.hok p _ hk
   refine ⟨⟨o, e, ex.1⟩, λ a e2 => ?_⟩
   cases e2
   exact ⟨o, e, ex.2.1⟩
 | _ => exact False.elim ty
noncomputable def tBM (K : PySem.W.Frag) (T : String) (r : V -> List V -> Hp -> VK -> Prop) (to : TE) (t : TA) : TE := λ σ H Q => to σ H λ x H1 => tyV K T x H1 /\ t σ H1 λ xs H2 => r x xs H2 Q
variable {o e : Expr} {es : List Expr} {to : TE} {t : TA} {name : Str} {apos cpos : Pos} {T id : String} {r : V -> List V -> Hp -> VK -> Prop}
theorem z4J (pa : PlainAttrs T) (slot : Slot T name id) (hty : typeOf (.builtin id) = pure (.type "method_descriptor")) (hm : MtR X id r) (ho : PE X o to) (ha : PA X (e :: es) t)
  (hbase : attributeBase o name X.env (eval o X.env) = eval o X.env := by rfl)
  (hfew : ((backTo cpos (starEach (e :: es) X.env)).all (λ x => !x.1) && (backToKw cpos (keywordEach [] X.env)).all (λ x => x.1.isSome)
   && decide ((e :: es).length + ([] : List Keyword).length + (if ([] : List Keyword).isEmpty then 0 else 1) < 30)) = true := by rfl)
  (hline : (apos.endLine == cpos.line) = true := by rfl) (hs : starEach (e :: es) X.env = (false, eval e X.env) :: starEach es X.env := by rfl) (hplain : (backTo cpos (starEach es X.env)).any (·.1) = false := by rfl) :
  PE X (.Call (.Attribute o name apos) (e :: es) [] cpos) (tBM X.K T r to t) := by
 intro pins s σ H Q I h
 refine wpAny_Call_method_late hbase hfew hline rfl (thn (ho pins s σ H _ I h) λ v s1 ⟨x, H1, I1, r1, ty, q1⟩ => ?_)
 obtain ⟨h1, h2⟩ := z3h I1 r1 ty
 refine ⟨T, id, pa, slot, hty, h1, h2, ?_⟩
 have hA := ha cpos pins s1 σ H1 _ I1 q1
 rw [hs] at hA ⊢
 refine Calls.callWith_builtin (by show (false || (backTo cpos (starEach es X.env)).any (·.1)) = false; rw [hplain] <;> rfl) (Calls.evalArgs_plain ?_)
 exact thn hA λ us s2 ⟨vs, H2, I2, r2, q2⟩ => hm pins s2 σ H2 x vs v us Q I2 r1 r2 q2
end
end L2
namespace L2
open PySem PySem.Spec PyProof.Rows
noncomputable def MtM (X : Cx) (id : String) (r : V -> List V -> Hp -> VK -> Prop) : Prop :=
 ∀ (pins : List (Addr × Obj)) (s : Shared) (σ : St) (H : Hp) (x : V) (xs : List V) (v : Value) (us : List Value) (Q : VK), Inv X pins σ H s -> RelV x v -> Vals xs us -> r x xs H Q ->
  wpAny (model X.prog X.w) X.A (call (.builtin id) (v :: us)) (EP X pins σ Q) X.xe s
theorem Vals.unc {x : V} {xs : List V} {us : List Value} (h : Vals (x :: xs) us) : ∃ u ws, us = u :: ws /\ RelV x u /\ Vals xs ws := by
 cases h with
 | cons r t => exact ⟨_, _, rfl, r, t⟩
theorem Vals.nl {us : List Value} (h : Vals [] us) : us = [] := by cases h; rfl
theorem Vals.one {x : V} {us : List Value} (h : Vals [x] us) : ∃ u, us = [u] /\ RelV x u := by
 obtain ⟨u, ws, rfl, r, t⟩ := h.unc
 cases t.nl
 exact ⟨_, rfl, r⟩
theorem Vals.two {x y : V} {us : List Value} (h : Vals [x, y] us) : ∃ u v, us = [u, v] /\ RelV x u /\ RelV y v := by
 obtain ⟨u, ws, rfl, r, t⟩ := h.unc
 obtain ⟨v, rfl, q⟩ := t.one
 exact ⟨_, _, rfl, r, q⟩
theorem Vals.rep {xs : List V} {us : List Value} (h : Vals xs us) : ∀ k : Nat, Vals (List.replicate k xs).flatten (List.replicate k us).flatten
 | 0 => .nil
 | k + 1 => by
  rw [List.replicate_succ, List.replicate_succ, List.flatten_cons, List.flatten_cons]
  exact Vals.append h (Vals.rep h k)
theorem q5f (its : List Value) : ∀ (k : Nat) (acc : List Value),
  List.foldl (λ x1 x2 => x1 ++ x2) acc.toArray (List.replicate k its.toArray) = (acc ++ (List.replicate k its).flatten).toArray
 | 0, acc => by simp
 | k + 1, acc => by
  have e : acc.toArray ++ its.toArray = (acc ++ its).toArray := by simp
  have e2 : (acc ++ its) ++ (List.replicate k its).flatten = acc ++ (List.replicate (k + 1) its).flatten := by
   rw [List.replicate_succ, List.flatten_cons, List.append_assoc]
  rw [← e2, ← q5f its k (acc ++ its), ← e, List.replicate_succ, List.foldl_cons]
section
variable {X : Cx} {pins : List (Addr × Obj)} {σ : St} {H : Hp} {s : Shared} {l b : Addr} {xs ys zs : List V}
theorem Inv.lset {its its' : List Value} {n : Nat} {f : Array Value -> Array Value} {t' : Nat} (I : Inv X pins σ H s) (hH : H l = some (.lst xs))
  (e : s.heap.get? l = some { cls := .type "list", data := .seq its.toArray n }) (hf : f its.toArray = its'.toArray) (hv : Vals ys its') (hz : ys.length <= sizeLine) :
  Inv X pins σ (upd H l (.lst ys)) { s with heap := s.heap.update l (Obj.mapSeq f), toks := t' } := by
 have q := PySem.IsL.update e f
 rw [hf] at q
 refine I.write (x := l) (e := l) (by rw [hH]; exact trivial) (.inl rfl) (λ b' u hb hu => (Heap.get?_update_other s.heap (Obj.mapSeq f) (Ne.symm hb)).trans hu) ⟨_, q⟩ ?_
 exact ⟨hz, its', _, hv, q⟩
theorem Inv.lnew {its : List Value} {t' : Nat} (I : Inv X pins σ H s) (hv : Vals ys its) (hz : ys.length <= sizeLine) :
  Inv X pins σ (upd H s.heap.objs.size (.lst ys)) { s with heap := s.heap.push { cls := .type "list", data := .seq its.toArray }, toks := t' } :=
 I.laid (λ _ _ q => Heap.get?_push_of_some _ q) (Nat.le_refl _) ⟨hz, its, 0, hv, Heap.get?_push_size _ rfl⟩
theorem Inv.fresh (I : Inv X pins σ H s) : H s.heap.objs.size = none := I.hok.fresh (Nat.le_refl _)
theorem Inv.lstM (I : Inv X pins σ H s) (hH : H l = some (.lst xs)) : xs.length <= sizeLine /\ ∃ (its : List Value) (n : Nat), Vals xs its /\ xs.length = its.length /\ s.heap.get? l = some { cls := .type "list", data := .seq its.toArray n } := by
 obtain ⟨z, its, n, r, e⟩ := I.hok l _ hH
 exact ⟨z, its, n, r, r.length, e⟩
theorem q9C {n : Nat} (h : n <= sizeLine) : Builtin.List.listTooLong n = false := by
 unfold Builtin.List.listTooLong
 exact decide_eq_false (by omega)
end
section
variable {X : Cx}
noncomputable def z2O : V -> List V -> Hp -> VK -> Prop := λ x vs H Q => ∃ l xs y, x = .ref l /\ vs = [y] /\ H l = some (.lst xs) /\ xs.length < sizeLine /\ Q .non (upd H l (.lst (xs ++ [y])))
theorem q8a : MtM X "list.append" z2O := by
 intro pins s σ H x vs v us Q I rx rv h
 obtain ⟨l, xs, y, rfl, rfl, hH, hz, q⟩ := h
 cases rx
 obtain ⟨u, rfl, ru⟩ := rv.one
 obtain ⟨z, its, n, r, hl, e⟩ := I.lstM hH
 refine call_meets F.slot_list_append ⟨_, e, rfl⟩ F.entry_list_append (F.args_list_append_2 _ _) (PySem.list_append l its.toArray n u (by rw [List.size_toArray]; omega)) ⟨e, ?_⟩
 refine ⟨.non, _, I.lset (its' := its ++ [u]) hH e (by simp) (r.append (.cons ru .nil)) ?_, rfl, q⟩
 rw [List.length_append, List.length_singleton]
 omega
noncomputable def rCat : R2 := λ x y H Q => ∃ l b xs zs, x = .ref l /\ y = .ref b /\ H l = some (.lst xs) /\ H b = some (.lst zs) /\ xs.length + zs.length <= sizeLine /\ ∀ p, H p = none -> Q (.ref p) (upd H p (.lst (xs ++ zs)))
theorem z3W : OpR X (binaryOp .Add) rCat := by
 intro pins s σ H x y v u Q I rx ry h
 obtain ⟨l, b, xs, zs, rfl, rfl, hH, hB, hz, q⟩ := h
 cases rx
 cases ry
 obtain ⟨z, its, n, r, hl, e⟩ := I.lstM hH
 obtain ⟨z2, its2, n2, r2, hl2, e2⟩ := I.lstM hB
 refine PySem.P.add_list e e2 ?_ (by rw [List.size_toArray, List.size_toArray]; omega)
 have ea : its.toArray ++ its2.toArray = (its ++ its2).toArray := by simp
 rw [ea]
 exact ⟨.ref _, _, I.lnew (t' := s.toks) (r.append r2) (by rw [List.length_append]; omega), rfl, q _ I.fresh⟩
noncomputable def rRep : R2 := λ x y H Q => ∃ l k xs, x = .ref l /\ y = .int k /\ H l = some (.lst xs) /\ -(2 ^ 63) <= k /\ k < 2 ^ 63 /\ xs.length * k.toNat <= sizeLine /\
 ∀ p, H p = none -> Q (.ref p) (upd H p (.lst (List.replicate k.toNat xs).flatten))
theorem z3a {α : Type} (xs : List α) (k : Nat) : (List.replicate k xs).flatten.length = k * xs.length := by
 induction k with
 | zero => simp
 | succ k ih => rw [List.replicate_succ, List.flatten_cons, List.length_append, ih, Nat.succ_mul, Nat.add_comm]
theorem z4D : OpR X (binaryOp .Mult) rRep := by
 intro pins s σ H x y v u Q I rx ry h
 obtain ⟨l, k, xs, rfl, rfl, hH, h1, h2, hz, q⟩ := h
 cases rx
 obtain ⟨t, rfl⟩ := ry
 obtain ⟨z, its, n, r, hl, e⟩ := I.lstM hH
 have hlen : its.toArray.size * k.toNat <= sizeLine := by rw [List.size_toArray, ← hl]; exact hz
 have hcap : ¬ its.toArray.size * k.toNat > (2 ^ 63 - 1) / 8 := by
  have : (sizeLine : Nat) <= (2 ^ 63 - 1) / 8 := by decide
  omega
 have hfit : ¬ (!Builtin.List.listFitsIndex k) = true := by
  rw [fitsIndex_both h1 h2]
  exact Bool.false_ne_true
 have hlong : ¬ Builtin.List.listTooLong (its.toArray.size * k.toNat) = true := by
  rw [q9C hlen]
  exact Bool.false_ne_true
 have hnew : List.foldl (λ x1 x2 => x1 ++ x2) #[] (List.replicate (if its.toArray.isEmpty = true then 0 else k.toNat) its.toArray) = (List.replicate k.toNat its).flatten.toArray := by
  have f0 : ∀ m : Nat, List.foldl (λ x1 x2 => x1 ++ x2) #[] (List.replicate m its.toArray) = (List.replicate m its).flatten.toArray := λ m => by
   have := q5f its m []
   rw [List.nil_append] at this
   exact this
  rw [f0]
  cases its with
  | nil => simp
  | cons a r' => rw [if_neg (by simp)]
 refine wpAny_binaryOp_repeat_ref (T := "list") (U := "int") (by decide) ⟨_, e, rfl⟩ (λ s' => typeIs_int s' k t) noFill_list_mul F.fills_int_mul F.slot_int_rmul repeat_list F.slot_int_index.lookup
  (call_meets F.slot_int_rmul (typeIs_int s k t) F.entry_int_rmul (F.args_int_rmul_2 _ _) (int___rmul___int_list k t l its.toArray n)
   ⟨e, rfl, ⟨_, e, rfl⟩, call_meets F.slot_list_mul ⟨_, e, rfl⟩ F.entry_list_mul (F.args_list_mul_2 _ _) (AutoListH.list___mul___list_int_3 l its.toArray n k t hfit hcap hlong) ⟨e, ?_⟩⟩)
 rw [hnew]
 exact ⟨.ref _, _, I.lnew (t' := s.toks) (r.rep k.toNat) (by rw [z3a, Nat.mul_comm]; exact hz), rfl, q _ I.fresh⟩
end
section
variable {prog : Program} {w : World} {A : Around} {E : Value -> Shared -> Prop} {s : Shared}
end
section
variable {X : Cx}
end
end L2
namespace Att
open PySem PySem.W PySem.Calls PyProof.Rows
theorem q3M {P : Params} {h : Heap} : ∀ (ns : List Int) (vs : List Value), WellAll P h vs (ns.map WData.int) -> IntsAre vs ns := by
 intro ns
 induction ns with
 | nil =>
  intro vs w
  rw [List.map_nil] at w
  cases w
  exact .nil
 | cons n ns ih =>
  intro vs w
  rw [List.map_cons] at w
  cases w with
  | cons a b =>
   cases a
   exact .cons _ _ (ih _ b)
theorem q7Z {l : OpenLaw} {n : Nat} (hn : l.most = some n) {P : Params} {h : Heap} {args : List WData} {vals : List Value}
  (hpre : l.row.toRowW.claim.pre args = true) (hwl : WellAll P h vals args) :
  ∃ a vs ns, vals = [Value.ref a] /\ args = [WData.list (ns.map WData.int)] /\ h.get? a = some { cls := .type "list", data := .seq vs.toArray } /\ IntsAre vs ns /\ ns.length <= n := by
 have hsh : WShape.hasAll [] args [.list .int] = true := (pre_splitW hpre).1
 have hc : l.pre.holds [] { args := args } = true := (pre_splitW hpre).2
 obtain ⟨d, r, rfl, h1, h2⟩ := hasAllW_cons hsh
 obtain rfl := hasAllW_nil h2
 obtain ⟨xs, rfl, h3⟩ := hasW_list h1
 obtain ⟨ns, rfl⟩ := items_int h3
 have hlen : ns.length <= n := by
  unfold OpenLaw.pre at hc
  have h4 : (WTm.not (.lt (.lit (.int (n : Int))) (.len (.arg 0)))).holds [] { args := [.list (ns.map .int)] } = true := by
   have h4 := (holds_andW hc).1
   rw [hn] at h4
   exact h4
  have h5 := condW_of h4 (w_not (w_lt w_lit (w_len_list (w_arg rfl))))
  rw [List.length_map] at h5
  refine Nat.le_of_not_lt λ q => ?_
  have q' : (n : Int) < ((ns.length : Nat) : Int) := by omega
  first
   | (rw [decide_eq_true q'] at h5; exact absurd h5 (by decide))
   | (simp at h5; omega)
 cases hwl with
 | cons w1 w2 =>
  cases w2
  cases w1 with
  | list ho hall => exact ⟨_, _, ns, rfl, rfl, ho, q3M ns _ hall, hlen⟩
theorem q8V (l : OpenLaw) (args : List WData) : l.row.toRowW.claim.post args (.bool true) args = true :=
 postW_of (r := l.row.toRowW) (X := (true == true))
  (show WShape.has [] (.bool true) .bool = true by first | rfl | decide | simp [WShape.has, WShape.arms, WShape.armsAll])
  (show (WTm.eq .res (.lit (.bool true))).value [] { args := args, res := some (.bool true), after := args } = some (.bool (true == true)) from w_eq_bool (w_res rfl) w_lit) rfl
theorem attach_call {l : OpenLaw} {n : Nat} {q : Program} {loose : List Str} {XP : (Str -> Option Value) -> Heap -> Prop} {YP : World -> Heap -> Prop} {d : DefRec}
  (hn : l.most = some n) (hdf : d.params.defaults = [])
  (call : ∀ (w : World) (s₀ s₁ : Shared) (mg mb : Str -> Option Value) (fa : Addr) (o : Obj) (pm cd doc : Value) (a : Addr) (vs : List Value) (ns : List Int),
   Ground q loose [] XP w s₀ mg mb s₁.heap -> YP w s₁.heap ->
   s₁.heap.get? fa = some o -> o.data = .func (docDef d.name d.params d.body d.scope pm cd doc) -> s₁.heap.CodeRec cd d.name -> mg d.name = some (.ref fa) ->
   s₁.heap.get? a = some { cls := .type "list", data := .seq vs.toArray } -> IntsAre vs ns -> ns.length <= n -> s₁.gens = #[] ->
   codeAny (model l.prog w) callerA (.call (.ref fa) ⟨[.ref a], []⟩) (λ r s' => r = .ok (.ret (.bool true)) /\ OldK s₁.heap s'.heap /\ s'.os = s₁.os /\ AllBare s'.gens) s₁) :
  WalkO q loose XP YP l.row.toRowW d [] (λ f vs => PySem.call f vs) := by
 intro w s₀ s₁ mg mb G Y fa o pm cd doc dV kV ho hd hcd hD hmg hg args vals as hpre hlay hrd hwl hlo
 obtain rfl : dV = .none := Dflts.none hD hdf
 obtain rfl : kV = .none := Dflts.noKw hD
 obtain ⟨a, vs, ns, rfl, rfl, hobj, hints, hlen⟩ := q7Z hn hpre hwl
 refine enter_call (codeAny_mono (call w s₀ s₁ mg mb fa o pm cd doc a vs ns G Y ho (fd_plain hd) hcd hmg hobj hints hlen hg) λ r s' hq => ?_)
 obtain ⟨rfl, h2, h3, h4⟩ := hq
 exact ⟨.inl ⟨.bool true, .bool true, [], rfl, λ _ => rfl, .bool true, q8V l _, λ _ => ⟨List.Pairwise.nil, λ _ hm => (nomatch hm)⟩⟩, h2, h3, h4⟩
section
variable {prog : Program} {w : World} {A : Around} {E : Value -> Shared -> Prop} {s : Shared} {K : Frag}
noncomputable def z6H (h : Heap) (L d : Addr) : List (Addr × Obj) := (List.range h.objs.size).filterMap λ a => if a = L \/ a = d then none else (h.get? a).map λ o => (a, o)
end
end Att
namespace L2
open PySem PySem.Spec PyProof.Rows
theorem q4V : ∀ {vs : List Value} {ns : List Int}, IntsAre vs ns -> Vals (ns.map V.int) vs
 | _, _, .nil => .nil
 | _, _, .cons n t h => .cons ⟨t, rfl⟩ (q4V h)
noncomputable def Only (H : Hp) : Prop := ∀ b, H b = none \/ ∃ o xs, H b = some (.frz o (.lst xs))
theorem q9w {P : Program} {w : World} {K : PySem.W.Frag} {mg mb : Str -> Option Value} {CX : CXT} {k : Nat} {fa a : Addr} {fd : FuncData} {x : Str} {sp : Sp} {s₁ : Shared} {vs : List Value} {ns : List Int}
  (KX : K.In s₁.heap) (hns : s₁.heap.Ns mainGlobals mg) (hb : s₁.heap.Ns builtinsNs mb) (hbb : ∀ x : Str, x ≠ "__name__" -> mb x = bootBuiltins x) (hlim : s₁.heap.NoLimit) (hg : s₁.gens = #[])
  (ha : s₁.heap.get? a = some { cls := .type "list", data := .seq vs.toArray }) (hi : IntsAre vs ns) (hl : ns.length <= sizeLine) (hr : Room k callerA)
  (F : ∀ base : Heap, K.In base -> base.Ns mainGlobals mg -> FnOk P w K mg base CX k fa fd [x] sp) (hbind : ∀ (s : Shared) (u : Value), BindsTo s fd ⟨[u], []⟩ [(x, u)])
  (hsp : ∀ H : Hp, Only H -> SqL K H a (ns.map V.int) -> sp [.ref a] H (λ v _ => v = .bl true) λ _ _ _ => False)
  (hCX : ∀ H e s', CX [] H s₁ (λ _ _ _ => False) e s' -> False) :
  codeAny (model P w) callerA (.call (.ref fa) ⟨[.ref a], []⟩) (λ r s' => r = .ok (.ret (.bool true)) /\ OldK s₁.heap s'.heap /\ s'.os = s₁.os /\ AllBare s'.gens) s₁ := by
 have rv := q4V hi
 have lenV := hi.length
 have core : ∀ H : Hp, Only H -> SqL K H a (ns.map V.int) -> HOk P w H s₁.heap -> (∀ b, H b ≠ none -> b = a) -> (H a ≠ none -> K.lookup a = none) ->
   codeAny (model P w) callerA (.call (.ref fa) ⟨[.ref a], []⟩) (λ r s' => r = .ok (.ret (.bool true)) /\ OldK s₁.heap s'.heap /\ s'.os = s₁.os /\ AllBare s'.gens) s₁ := by
  intro H hO hS hok hA hK
  have base_of : ∀ {b : Addr} {o : Obj}, s₁.heap.get? b = some o -> H b = none -> (hidT s₁.heap H).get? b = some o := λ e n => z0m e n
  have noA : ∀ {b : Addr} {o : Obj} {es : Array DictEntry} {ep : Nat}, s₁.heap.get? b = some o -> o.data = .dict es ep -> H b = none := λ {b o es ep} e d => by
   cases q : H b with
   | none => rfl
   | some u =>
    have e' : b = a := hA b (by rw [q]; simp)
    subst e'
    rw [ha] at e; cases e
    have d' : Data.seq vs.toArray _ = Data.dict es ep := d
    cases d'
  have nsK : ∀ {b : Addr} {m : Str -> Option Value}, s₁.heap.Ns b m -> (hidT s₁.heap H).Ns b m := λ {b m} ⟨o, es, ep, e, d, r⟩ => ⟨o, es, ep, base_of e (noA e d), d, r⟩
  have hKb : K.In (hidT s₁.heap H) := λ b o e => base_of (KX b o e) (by
   cases q : H b with
   | none => rfl
   | some u =>
    have e' : b = a := hA b (by rw [q]; simp)
    subst e'
    rw [hK (by rw [q]; simp)] at e; cases e)
  have hM : Mod K mg (hidT s₁.heap H) := ⟨hKb, nsK hns, ⟨mb, nsK hb, hbb⟩, let ⟨mc, h1, h2⟩ := hlim; ⟨mc, nsK h1, h2⟩⟩
  have e0 : Env0 P w K mg (hidT s₁.heap H) callerA [] s₁ H := ⟨rfl, hM, λ b o e => z1V e, Nat.le_of_eq (q9c _ _), trivial, λ b hb => absurd (show b ∈ ([] : List Addr) from hb) (by simp), hok, .of_eq hg⟩
  refine codeAny_mono ((F _ hKb (nsK hns)).run callerA [] s₁ H ⟨[.ref a], []⟩ [.ref a] [.ref a] _ _ hr e0 (hbind s₁ (.ref a)) (.cons rfl .nil) (hsp H hO hS)) λ r s' h => ?_
  cases r with
  | error e => exact (hCX H e s' h).elim
  | ok fl =>
   cases fl with
   | next => exact False.elim h
   | brk => exact False.elim h
   | cont => exact False.elim h
   | ret u =>
    obtain ⟨v, H', os, bare, un, hok', r', q⟩ := h
    have q' : v = .bl true := q
    subst q'
    obtain rfl : u = Value.bool true := r'
    refine ⟨rfl, OldK.of_keep λ b o e => ?_, os, bare⟩
    cases q : H b with
    | none => exact un.keep b o e q (by intro z; exact absurd (show b ∈ ([] : List Addr) from z) (by simp)) (by simp)
    | some u =>
     rcases hO b with z | ⟨ob, xs, z⟩
     ·rw [q] at z; cases z
     ·have z2 := un.frzs b ob _ z
      obtain ⟨e1, _⟩ := hok b _ z
      obtain ⟨e2, _⟩ := hok' b _ z2
      rw [e] at e1; cases e1
      exact e2
 cases hk : K.lookup a with
 | some o =>
  have e := KX a o hk
  rw [ha] at e
  cases e
  refine core (λ _ => none) (λ _ => .inl rfl) (.inr ⟨_, vs.toArray, _, hk, rfl, rfl, rfl, by rw [List.size_toArray, lenV]; exact hl, by simpa using rv⟩) (λ b u z => by have z' : (none : Option HO) = some u := z; cases z') (λ b z => absurd rfl z) λ z => absurd rfl z
 | none =>
  refine core (λ b => if b = a then some (.frz { cls := .type "list", data := .seq vs.toArray } (.lst (ns.map V.int))) else none) (λ b => ?_) (.inl (.inr ⟨{ cls := .type "list", data := .seq vs.toArray }, if_pos rfl⟩)) (λ b u z => ?_) (λ b z => ?_) λ _ => hk
  ·by_cases hb : b = a
   ·exact .inr ⟨_, _, if_pos hb⟩
   ·exact .inl (if_neg hb)
  ·by_cases hb : b = a
   ·have z' := (if_pos hb).symm.trans z
    cases z'
    subst hb
    exact ⟨ha, by rw [List.length_map]; exact hl, vs, _, rv, ha⟩
   ·have z' := (if_neg hb).symm.trans z
    cases z'
  ·by_cases hb : b = a
   ·exact hb
   ·exact absurd (if_neg hb) z
end L2
namespace L2
open PySem PySem.Spec PyProof.Rows
noncomputable abbrev KOf {K : PySem.W.Frag} {h : Heap} (_ : K.In h) : PySem.W.Frag := K
theorem walk_of {l : PySem.W.OpenLaw} {n k : Nat} {q : Program} {loose : List Str} {XP : (Str -> Option Value) -> Heap -> Prop} {YP : World -> Heap -> Prop} {d : DefRec} {K : Params -> PySem.W.Frag} {CX : World -> CXT} {sp : World -> Sp} {x : Str}
  (hn : l.most = some n) (hn2 : n <= sizeLine) (hdf : d.params.defaults = []) (hr : Room k callerA)
  (hY : ∀ (w : World) (h : Heap), YP w h -> (K w.params).In h)
  (F : ∀ (w : World) (mg : Str -> Option Value) (fa : Addr) (h : Heap), (K w.params).In h -> h.Ns mainGlobals mg -> mg d.name = some (.ref fa) ->
   ∃ fd : FuncData, (∀ (s : Shared) (u : Value), BindsTo s fd ⟨[u], []⟩ [(x, u)]) /\
    ∀ base : Heap, (K w.params).In base -> base.Ns mainGlobals mg -> FnOk l.prog w (K w.params) mg base (CX w) k fa fd [x] (sp w))
  (hsp : ∀ (w : World) (H : Hp) (a : Addr) (ns : List Int), ns.length <= n -> Only H -> SqL (K w.params) H a (ns.map V.int) -> sp w [.ref a] H (λ v _ => v = .bl true) λ _ _ _ => False)
  (hCX : ∀ (w : World) (H : Hp) (s : Shared) (e : Value) (s' : Shared), CX w [] H s (λ _ _ _ => False) e s' -> False) :
  PySem.W.WalkO q loose XP YP l.row.toRowW d [] (λ f vs => PySem.call f vs) := by
 refine Att.attach_call hn hdf λ w s₀ s₁ mg mb fa o pm cd doc a vs ns G Y ho hd hcd hmg hobj hints hlen hg => ?_
 have KX := hY w _ Y
 obtain ⟨fd, hb, hF⟩ := F w mg fa _ KX G.T.g hmg
 exact q9w KX G.T.g G.T.b G.T.builtins G.T.nolimit hg hobj hints (Nat.le_trans hlen hn2) hr hF hb (λ H hO hS => hsp w H a ns hlen hO hS) λ H e s' => hCX w H s₁ e s'
end L2
namespace L2
open PySem PySem.Spec PyProof.Rows
noncomputable def q0v (s : Stmt) : Arguments := match s with
 | .FunctionDef _ a _ _ _ _ _ _ _ _ => a
 | _ => { posonlyargs := [], args := [], vararg := none, kwonlyargs := [], kw_defaults := [], kwarg := none, defaults := [] }
noncomputable def q0p (s : Stmt) : List Stmt := match s with
 | .FunctionDef _ _ b _ _ _ _ _ _ _ => b
 | _ => []
noncomputable def q0c (s : Stmt) : Scope := match s with
 | .FunctionDef _ _ _ _ _ _ sc _ _ _ => sc
 | _ => { kind := .function, names := [], isGenerator := false, isCoroutine := false }
noncomputable abbrev CX0 : CXT := λ _ _ _ _ _ _ => False
noncomputable abbrev E0 : XK := λ _ _ _ => False
structure Fun (K : PySem.W.Frag) (x qual : Str) (st : Stmt) (f : Addr) (fd : FuncData) : Prop where
 ex : ∃ (oc : Value) (od : Option Addr) (kV doc pm : Value) (an : Option Addr) (cdv ct : Value) (osl : Array (Option Value)),
  fd = PySem.W.fnOf x qual (q0v st) (q0p st) (q0c st) .none kV doc pm an cdv ct /\ K.lookup f = some ⟨oc, od, .func fd, osl⟩ /\ PySem.W.codeIn K cdv qual = true
 kp : PySem.W.keepIn K (.ref f) = true
section
variable {P : Program} {w : World} {K : PySem.W.Frag} {mg : Str -> Option Value} {base : Heap}
end
section
variable {X : Cx}
end
theorem iteF {A B : Prop} (h : B) : if false = true then A else B := by
 rw [if_neg Bool.false_ne_true]
 exact h
theorem iteT {A B : Prop} (h : A) : if true = true then A else B := by
 rw [if_pos rfl]
 exact h
noncomputable def Same (H H' : Hp) : Prop := ∀ b o, H b = some o -> H' b = some o
theorem Same.refl (H : Hp) : Same H H := λ _ _ h => h
theorem Same.trans {H H1 H2 : Hp} (a : Same H H1) (b : Same H1 H2) : Same H H2 := λ c o h => b c o (a c o h)
theorem Same.free {H H' : Hp} (e : Same H H') {l : Addr} (h : H' l = Option.none) : H l = Option.none := by
 cases q : H l with
 | none => rfl
 | some o =>
  rw [e l o q] at h
  cases h
theorem Same.seq {K : PySem.W.Frag} {H H' : Hp} {a : Addr} {xs : List V} (e : Same H H') (h : SqL K H a xs) : SqL K H' a xs := by
 rcases h with (h | ⟨o, h⟩) | h
 ·exact .inl (.inl (e _ _ h))
 ·exact .inl (.inr ⟨o, e _ _ h⟩)
 ·exact .inr h
end L2
end
section
namespace L2
open PySem PySem.Spec PyProof.Rows
noncomputable def q0l (cells : List (Str × Addr)) : List (Str × NameKind) -> List (Str × Addr) -> List (Str × Addr)
 | [], acc => acc
 | (n, k) :: r, acc => if (k == NameKind.free) = true then q0l cells r ((n, (cells.lookup n).getD 0) :: acc) else q0l cells r acc
theorem q1s {env : Env} : ∀ (names : List (Str × NameKind)) (acc : List (Str × Addr)), (∀ y ∈ names, y.2 = NameKind.free -> ∃ c, env.cells.lookup y.1 = some c) ->
  (forIn names acc (λ (x : Str × NameKind) (cs : List (Str × Addr)) => (match x with | (name, kind) => if (kind == NameKind.free) = true then (do let a ← cellOf env name; pure (ForInStep.yield ((name, a) :: cs))) else pure (ForInStep.yield cs) : Sem (ForInStep (List (Str × Addr))))) : Sem (List (Str × Addr))) = pure (q0l env.cells names acc)
 | [], acc, _ => rfl
 | (n, k) :: r, acc, h => by
  have hr : ∀ y ∈ r, y.2 = NameKind.free -> ∃ c, env.cells.lookup y.1 = some c := λ y hy => h y (List.mem_cons_of_mem _ hy)
  rw [List.forIn_cons]
  by_cases hk : (k == NameKind.free) = true
  ·obtain ⟨c, hc⟩ := h (n, k) List.mem_cons_self (beq_iff_eq.mp hk)
   have e1 : cellOf env n = pure c := by unfold cellOf; rw [hc]
   have e2 : q0l env.cells ((n, k) :: r) acc = q0l env.cells r ((n, c) :: acc) := by
    show (if (k == NameKind.free) = true then q0l env.cells r ((n, (env.cells.lookup n).getD 0) :: acc) else q0l env.cells r acc) = _
    rw [if_pos hk, hc]; rfl
   rw [e2, ← q1s r ((n, c) :: acc) hr]
   simp only [hk, if_true, e1]
   rfl
  ·have e2 : q0l env.cells ((n, k) :: r) acc = q0l env.cells r acc := by
    show (if (k == NameKind.free) = true then q0l env.cells r ((n, (env.cells.lookup n).getD 0) :: acc) else q0l env.cells r acc) = _
    rw [if_neg hk]
   rw [e2, ← q1s r acc hr]
   simp only [hk, if_false]
   rfl
theorem q2b {scope : Scope} {env : Env} (h : ∀ y ∈ scope.names, y.2 = NameKind.free -> ∃ c, env.cells.lookup y.1 = some c) : closureFor scope env = pure (q0l env.cells scope.names []) := by
 have q := q1s (env := env) scope.names [] h
 unfold closureFor
 first
  | exact (congrArg (λ t => (t >>= λ cs => pure cs)) q).trans rfl
  | (simp only [q]; rfl)
theorem q1K {cells : List (Str × Addr)} : ∀ {names : List (Str × NameKind)} {acc : List (Str × Addr)} {x : Str} {c : Addr}, (∀ y ∈ names, y.2 = NameKind.free -> ∃ c, cells.lookup y.1 = some c) ->
  (x, c) ∈ q0l cells names acc -> (x, c) ∈ acc \/ (cells.lookup x = some c /\ (x, NameKind.free) ∈ names)
 | [], acc, x, c, _, h => .inl h
 | (n, k) :: r, acc, x, c, hh, h => by
  have hr : ∀ y ∈ r, y.2 = NameKind.free -> ∃ c, cells.lookup y.1 = some c := λ y hy => hh y (List.mem_cons_of_mem _ hy)
  unfold q0l at h
  by_cases hk : (k == NameKind.free) = true
  ·rw [if_pos hk] at h
   obtain ⟨c', hc⟩ := hh (n, k) List.mem_cons_self (beq_iff_eq.mp hk)
   rcases q1K hr h with z | ⟨z1, z2⟩
   ·rcases List.mem_cons.mp z with z | z
    ·cases z
     exact .inr ⟨by rw [hc]; rfl, by rw [← beq_iff_eq.mp hk]; exact List.mem_cons_self⟩
    ·exact .inl z
   ·exact .inr ⟨z1, List.mem_cons_of_mem _ z2⟩
  ·rw [if_neg hk] at h
   rcases q1K hr h with z | ⟨z1, z2⟩
   ·exact .inl z
   ·exact .inr ⟨z1, List.mem_cons_of_mem _ z2⟩
theorem q1I {cells : List (Str × Addr)} : ∀ {names : List (Str × NameKind)} {acc : List (Str × Addr)} {y : Str × Addr}, y ∈ acc -> y ∈ q0l cells names acc
 | [], _, _, h => h
 | (n, k) :: r, acc, y, h => by
  unfold q0l
  split
  ·exact q1I (List.mem_cons_of_mem _ h)
  ·exact q1I h
theorem q1P {cells : List (Str × Addr)} : ∀ {names : List (Str × NameKind)} {acc : List (Str × Addr)} {x : Str} {c : Addr}, (x, NameKind.free) ∈ names -> cells.lookup x = some c -> (x, c) ∈ q0l cells names acc
 | (n, k) :: r, acc, x, c, h, hc => by
  unfold q0l
  rcases List.mem_cons.mp h with z | z
  ·cases z
   rw [if_pos (show (NameKind.free == NameKind.free) = true from rfl), hc]
   exact q1I List.mem_cons_self
  ·split
   ·exact q1P z hc
   ·exact q1P z hc
theorem q0X : ∀ (names : List (Str × NameKind)) (n : Nat) (acc : List (Str × Addr)), cellsFrom n names acc = cellsFrom n names [] ++ acc
 | [], _, _ => rfl
 | (x, k) :: r, n, acc => by
  unfold cellsFrom
  split
  ·rw [q0X r (n + 1) ((x, n) :: acc), q0X r (n + 1) [(x, n)], List.append_assoc]; rfl
  ·exact q0X r n acc
theorem q1L : ∀ {names : List (Str × NameKind)} {n : Nat} {x : Str} {c : Addr}, (x, c) ∈ cellsFrom n names [] -> (x, NameKind.cell) ∈ names
 | [], _, _, _, h => nomatch h
 | (y, k) :: r, n, x, c, h => by
  unfold cellsFrom at h
  by_cases hk : (k == NameKind.cell) = true
  ·rw [if_pos hk, q0X] at h
   rcases List.mem_append.mp h with z | z
   ·exact List.mem_cons_of_mem _ (q1L z)
   ·have z' : (x, c) = (y, n) := by simpa using z
    cases z'
    rw [beq_iff_eq.mp hk]; exact List.mem_cons_self
  ·rw [if_neg hk] at h
   exact List.mem_cons_of_mem _ (q1L h)
theorem q1E {α : Type} {x : Str} : ∀ {l r : List (Str × α)}, (l ++ r).lookup x = (l.lookup x).or (r.lookup x)
 | [], r => by simp
 | (y, v) :: l, r => by
  rw [List.cons_append, List.lookup_cons, List.lookup_cons]
  cases hb : x == y with
  | true => rfl
  | false => exact q1E
theorem q2p {α : Type} {x : Str} : ∀ {l : List (Str × α)}, (∀ c, (x, c) ∉ l) -> l.lookup x = none
 | [], _ => rfl
 | (y, v) :: l, h => by
  rw [List.lookup_cons]
  cases hb : x == y with
  | true => exact absurd (by rw [beq_iff_eq.mp hb]; exact List.mem_cons_self) (h v)
  | false => exact q2p λ c hc => h c (List.mem_cons_of_mem _ hc)
theorem q2n {α : Type} {x : Str} : ∀ {l : List (Str × α)} {c : α}, (x, c) ∈ l -> ∃ c', l.lookup x = some c'
 | (y, v) :: l, c, h => by
  rw [List.lookup_cons]
  cases hb : x == y with
  | true => exact ⟨v, rfl⟩
  | false =>
   rcases List.mem_cons.mp h with z | z
   ·cases z; rw [beq_self_eq_true] at hb; cases hb
   ·exact q2n z
theorem q0D {α : Type} {x : Str} : ∀ {l : List (Str × α)} {c : α}, (l.map (·.1)).Nodup -> (x, c) ∈ l -> l.lookup x = some c
 | (y, v) :: l, c, nd, h => by
  rw [List.lookup_cons]
  rw [List.map_cons] at nd
  have nd' := List.nodup_cons.mp nd
  rcases List.mem_cons.mp h with z | z
  ·cases z; rw [beq_self_eq_true]
  ·have : x ≠ y := λ e => nd'.1 (by rw [← e]; exact List.mem_map.mpr ⟨_, z, rfl⟩)
   rw [beq_eq_false_iff_ne.mpr this]
   exact q0D nd'.2 z
theorem q1t {scope : Scope} {env : Env} {x : Str} : (relabel scope env).names.lookup x = (scope.names.lookup x).map λ k => if (k == NameKind.free && env.scope.kind == .function && env.kindOf x == some .cell) = true then NameKind.cell else k := by
 unfold relabel
 show (scope.names.map _).lookup x = _
 generalize scope.names = l
 induction l with
 | nil => rfl
 | cons y r ih =>
  obtain ⟨n, k⟩ := y
  rw [List.map_cons]
  show List.lookup x ((if (k == NameKind.free && env.scope.kind == .function && env.kindOf n == some .cell) = true then (n, NameKind.cell) else (n, k)) :: _) = _
  have e : (if (k == NameKind.free && env.scope.kind == .function && env.kindOf n == some .cell) = true then (n, NameKind.cell) else (n, k)) = (n, if (k == NameKind.free && env.scope.kind == .function && env.kindOf n == some .cell) = true then NameKind.cell else k) := by split <;> rfl
  rw [e, List.lookup_cons, List.lookup_cons]
  cases hb : x == n with
  | true => rw [beq_iff_eq.mp hb]; rfl
  | false => exact ih
theorem q5J {M : Model} {A : Around} {E : Value -> Shared -> Prop} {s : Shared} {scope : Scope} {g : Addr} {cl : List (Str × Addr)} {q : Str} {env : Env} {Q : Env -> Shared -> Prop}
  (hQ : Q (newEnv scope s.heap.objs.size g (cellsFrom (s.heap.objs.size + 1) scope.names cl) q none .none (some env) builtinsNs) { s with heap := pushCells (s.heap.push { cls := .type "dict", data := .dict #[] }) scope.names }) :
  wpAny M A (newFunctionEnv scope g cl [] q none .none (some env)) Q E s := by
 simp only [newFunctionEnv, Option.isSome_some, if_true]
 refine wpAny_bind (wpAny_alloc ?_)
 refine wpAny_bind (wpAny_layCells _ (λ name kind cells => by cases hkc : kind == NameKind.cell <;> simp [hkc]) _ _ _ _ ?_)
 rw [show ({ s with heap := s.heap.push { cls := .type "dict", data := .dict #[] } } : Shared).heap.objs.size = s.heap.objs.size + 1 from Heap.size_push ..]
 exact wpAny_bind (wpAny_pure (wpAny_pure hQ))
theorem q5b {prog : Program} {w : World} {A : Around} {R : Result -> Shared -> Prop} {s : Shared} {elt target iter : Expr} {ifs : List Expr} {scope : Scope} {pos : Pos} {it acc : Value} {env : Env} (I : Nat -> Shared -> Prop)
  (turn : ∀ n s, I n s -> wpAny (model prog w) A (pyNext it) (λ r s₁ => match r with
   | none => R (.ok .next) s₁
   | some v => wpAny (model prog w) A (letOwnedTupleGo target it v) (λ _ s₁' => wpAny (model prog w) A (assign target env v) (λ _ s₂ =>
     wpAny (model prog w) A (forIn ifs true λ c r => if r = true then do let ok ← isTrue c env (eval c env); pure (ForInStep.yield ok) else pure (ForInStep.yield r)) (λ ok s₃ =>
      if ok = true then wpAny (model prog w) A (eval elt env) (λ x s₄ =>
       wpAny (model prog w) A (call (.builtin "list.append") [acc, x]) (λ _ s₅ => ∃ m, m < n /\ I m s₅) (notedBy (model prog w) A env λ e s' => R (.error e) s') s₄) (notedBy (model prog w) A env λ e s' => R (.error e) s') s₃
      else ∃ m, m < n /\ I m s₃) (notedBy (model prog w) A env λ e s' => R (.error e) s') s₂) (notedBy (model prog w) A env λ e s' => R (.error e) s') s₁') (notedBy (model prog w) A env λ e s' => R (.error e) s') s₁) (notedBy (model prog w) A env λ e s' => R (.error e) s') s)
  (n : Nat) (h : I n s) :
  codeAny (model prog w) A (.compLoop (.ListComp elt [⟨target, iter, ifs, 0⟩] scope pos) 0 it acc env) R s := by
 refine codeAny_loop rfl I (λ n s hI => ?_) n h
 show wpAny _ A ((compTurn (.ListComp elt [⟨target, iter, ifs, 0⟩] scope pos) 0 it acc env).onRaise (λ x => do noteFrame x env; theTreesLotGoes x)) _ _ s
 refine wpAny_noted ?_
 rw [compTurn_list]
 refine wpAny_bind (wpAny_standAt (wpAny_bind (wpAny_mono (turn n s hI) (λ r s₁ h₁ => ?_) λ _ _ h' => h')))
 cases r with
 | none => exact wpAny_pure h₁
 | some v =>
  refine wpAny_bind (wpAny_mono h₁ (λ _ s₁' h₁' => ?_) λ _ _ h' => h')
  refine wpAny_bind (wpAny_mono h₁' (λ _ s₂ h₂ => wpAny_bind (wpAny_mono h₂ (λ ok s₃ h₃ => ?_) λ _ _ h' => h')) λ _ _ h' => h')
  cases ok with
  | false => exact wpAny_pure ⟨rfl, h₃⟩
  | true =>
   exact wpAny_bind (wpAny_bind (wpAny_mono h₃ (λ x s₄ h₄ => wpAny_bind (wpAny_mono h₄ (λ _ s₅ h₅ => wpAny_pure (wpAny_pure ⟨rfl, h₅⟩)) λ _ _ h' => h')) λ _ _ h' => h'))
theorem HOk.track {P : Program} {w : World} {H : Hp} {h : Heap} {a : Addr} {o : HO} (x : HOk P w H h) (hn : H a = none) (new : q0Y P w (upd H a o) h a o) : HOk P w (upd H a o) h := λ b u e => by
 by_cases hb : b = a
 ·subst hb; rw [q0m] at e; cases e; exact new
 ·rw [q0j hb] at e
  exact (x b u e).stay (λ c v _ q => q) (λ c q => by rw [q0j (q0o q hn)]; exact q) λ c xs q => by rw [q0j (q0o q hn)]; exact q
theorem Un.track {fs ex : List Addr} {H H' : Hp} {h h' : Heap} {a : Addr} {o : HO} (u : Un fs ex H H' h h') (hn : H' a = none) (hh : h.get? a = none) : Un fs ex H (upd H' a o) h h' where
 keep := u.keep
 slot := u.slot
 free := λ b ob q n hx => by
  have : b ≠ a := λ z => by rw [z, hh] at q; cases q
  rw [q0j this]; exact u.free b ob q n hx
 there := u.there
 tups := λ b xs q => by have z := u.tups b xs q; rw [q0j (q0o z hn)]; exact z
 frzs := λ b ob xs q => by have z := u.frzs b ob xs q; rw [q0j (q0o z hn)]; exact z
 tbls := λ b ps q => by
  obtain ⟨m, z⟩ := u.tbls b ps q
  exact ⟨m, by rw [q0j (q0o z hn)]; exact z⟩
structure CompScope (N N' : List Str) (sc osc : Scope) (fr : List (Option Nat)) : Prop where
 kind : sc.kind = .function
 nd : N'.Nodup
 snd : (sc.names.map (·.1)).Nodup
 len : fr.length = N'.length
 fre : ∀ (j i : Nat), fr[j]? = some (some i) -> ∃ x, N'[j]? = some x /\ N[i]? = some x /\ (x, NameKind.free) ∈ sc.names
 out : ∀ y ∈ sc.names, y.2 = NameKind.free -> osc.names.lookup y.1 = some .cell \/ osc.names.lookup y.1 = some .free
noncomputable def inner (fr : List (Option Nat)) (σ : St) : St := fr.map λ o => o.bind λ i => (σ[i]?).join
noncomputable def q0s (X : Cx) (scope : Scope) (N' : List Str) (C : Addr) (cells : List (Str × Addr)) (s₂ : Shared) (H₂ : Hp) (fp : List Addr) : Cx :=
 { X with N := N', s₀ := s₂, H₀ := H₂, env := compEnvC scope cells C X.env, outer := X.stack, stack := X.stack, ex := fp, fn := λ x => scope.names.lookup x == some .cell, pn := [], xe := λ _ _ => False }
section
variable {X : Cx} {pins : List (Addr × Obj)} {σ : St} {H : Hp} {s₂ : Shared} {N' : List Str} {scope : Scope} {fr : List (Option Nat)} {fp : List Addr}
noncomputable abbrev q1C : Obj := { cls := .type "list", dict := none, data := .seq ([] : List Value).toArray }
noncomputable abbrev q5k : Obj := { cls := .type "dict", data := .dict #[] }
theorem q9z (S : CompScope X.N N' scope X.env.scope fr) (I : Inv X pins σ H s₂) (f : ∀ b ∈ fp, FpOk X pins H b) (ho : ∀ b ∈ fp, @LT.lt Nat _ b s₂.heap.objs.size) {C : Nat} (hC : C = s₂.heap.objs.size + 1) {h4 : Heap} (h4e : h4 = pushCells ((s₂.heap.push q1C).push q5k) scope.names) :
  Inv (q0s X scope N' C (cellsFrom (C + 1) scope.names (q0l X.env.cells scope.names [])) s₂ H fp) [] (inner fr σ) H { s₂ with heap := h4 } /\ h4.get? s₂.heap.objs.size = some q1C /\ (∀ b o, s₂.heap.get? b = some o -> h4.get? b = some o) := by
 have hsz1 : (s₂.heap.push q1C).objs.size = s₂.heap.objs.size + 1 := Heap.size_push ..
 have hsz2 : ((s₂.heap.push q1C).push q5k).objs.size = C + 1 := by rw [Heap.size_push, hsz1, hC]
 have keep : ∀ b o, s₂.heap.get? b = some o -> h4.get? b = some o := λ b o e => by rw [h4e]; exact pushCells_keeps _ _ b o (Heap.get?_push_of_some _ (Heap.get?_push_of_some _ e))
 have hD : h4.get? s₂.heap.objs.size = some q1C := by rw [h4e]; exact pushCells_keeps _ _ _ _ (Heap.get?_push_of_some _ (Heap.get?_push_size _ rfl))
 have hns : h4.Ns C λ _ => none := by
  have q := (Heap.Ns.new (s₂.heap.push q1C) (.type "dict")).keeps (pushCells_keeps scope.names _)
  rw [hsz1, ← hC] at q
  rw [h4e]; exact q
 have ok := cellsFrom_ok scope.names ((s₂.heap.push q1C).push q5k) (C + 1) [] ⟨λ _ _ hm => (nomatch hm), List.Pairwise.nil⟩ (by rw [hsz2]; exact Nat.le_refl _)
 rw [hsz2, ← h4e] at ok
 have hfree : ∀ y ∈ scope.names, y.2 = NameKind.free -> ∃ c, X.env.cells.lookup y.1 = some c := λ y hy hk => I.ok.has y.1 (S.out y hy hk)
 generalize hcl : q0l X.env.cells scope.names [] = cl
 have memcl : ∀ {x : Str} {c : Addr}, (x, c) ∈ cl -> X.env.cells.lookup x = some c /\ (x, NameKind.free) ∈ scope.names := λ {x c} hm => by
  rw [← hcl] at hm
  rcases q1K hfree hm with z | z
  ·exact nomatch z
  ·exact z
 generalize hown : cellsFrom (C + 1) scope.names [] = own at ok
 have app : cellsFrom (C + 1) scope.names cl = own ++ cl := by rw [q0X, hown]
 rw [app]
 have memown : ∀ {x : Str} {c : Addr}, (x, c) ∈ own -> (x, NameKind.cell) ∈ scope.names := λ {x c} hm => by rw [← hown] at hm; exact q1L hm
 have L1 : ∀ x c, (own ++ cl).lookup x = some c -> ((x, c) ∈ own) \/ (X.env.cells.lookup x = some c /\ (x, NameKind.free) ∈ scope.names /\ own.lookup x = none) := λ x c e => by
  rw [q1E] at e
  cases q : own.lookup x with
  | some c' => rw [q] at e; cases e; exact .inl (PySem.mem_of_lookup q)
  | none => rw [q] at e; have z := memcl (PySem.mem_of_lookup (show cl.lookup x = some c from e)); exact .inr ⟨z.1, z.2, rfl⟩
 have own_ge : ∀ {x : Str} {c : Nat}, (x, c) ∈ own -> @LE.le Nat _ (C + 1) c := λ {x c} hm => (ok.empty x c hm).2
 have cell_lt : ∀ {x : Str} {c : Nat}, X.env.cells.lookup x = some c -> @LT.lt Nat _ c s₂.heap.objs.size := λ {x c} e => by
  obtain ⟨v, z⟩ := I.cell x c e
  exact z.lt
 have free_no : ∀ {x : Str}, (x, NameKind.free) ∈ scope.names -> own.lookup x = none := λ {x} hm => by
  refine q2p λ c hc => ?_
  have a := q0D S.snd hm
  have b := q0D S.snd (memown hc)
  rw [a] at b; cases b
 have cl_get : ∀ {x : Str} {c : Addr}, (x, NameKind.free) ∈ scope.names -> X.env.cells.lookup x = some c -> (own ++ cl).lookup x = some c := λ {x c} hm hc => by
  rw [q1E, free_no hm]
  obtain ⟨c', e⟩ := q2n (l := cl) (by rw [← hcl]; exact q1P hm hc)
  have z := (memcl (PySem.mem_of_lookup e)).1
  rw [hc] at z; cases z
  exact e
 have hX : (q0s X scope N' C (own ++ cl) s₂ H fp).Ok := by
  refine ⟨I.ok.mod, S.kind, I.ok.glob, I.ok.blt, ?_, λ x y c h1 h2 => ?_, λ x hx => ?_, λ x c hf hc => ?_, I.ok.hd, I.ok.frames, .inl rfl, λ b hb => ⟨?_, λ x c e => ?_⟩, I.bs, Nat.le_trans I.ok.bsz I.sz, λ b o e hb => ?_, λ b hb hs => ?_, I.stack, I.stkFree⟩
  ·show s₂.heap.objs.size <= C
   rw [hC]; exact Nat.le_succ _
  ·have h1 : (own ++ cl).lookup x = some c := h1
   have h2 : (own ++ cl).lookup y = some c := h2
   rcases L1 x c h1 with a | ⟨a, _⟩ <;> rcases L1 y c h2 with b | ⟨b, _⟩
   ·exact name_of_addr ok.apart a b
   ·exfalso; have q1 := own_ge a; have q2 := cell_lt b; omega
   ·exfalso; have q1 := own_ge b; have q2 := cell_lt a; omega
   ·exact I.ok.inj x y c a b
  ·have hx' : (relabel scope X.env).names.lookup x = some .cell \/ (relabel scope X.env).names.lookup x = some .free := hx
   show ∃ c, (own ++ cl).lookup x = some c
   rw [q1t] at hx'
   cases q : scope.names.lookup x with
   | none => rw [q] at hx'; rcases hx' with z | z <;> cases z
   | some k =>
    have km := PySem.mem_of_lookup q
    by_cases k1 : k = .cell
    ·subst k1
     have z := PySem.W.cellsFrom_some scope.names (C + 1) [] (.inl q)
     rw [hown] at z
     obtain ⟨c, z⟩ := Option.isSome_iff_exists.mp z
     exact ⟨c, by rw [q1E, z]; rfl⟩
    ·by_cases k2 : k = .free
     ·subst k2
      obtain ⟨c, e⟩ := hfree _ km rfl
      exact ⟨c, cl_get km e⟩
     ·exfalso
      rw [q] at hx'
      have e0 : (k == NameKind.free) = false := beq_eq_false_iff_ne.mpr k2
      simp only [Option.map_some, e0, Bool.false_and] at hx'
      rcases hx' with z | z
      ·exact k1 (by simpa using z)
      ·exact k2 (by simpa using z)
  ·have hf' : (scope.names.lookup x == some .cell) = true := hf
   have q : scope.names.lookup x = some .cell := by simpa using hf'
   have z := PySem.W.cellsFrom_some scope.names (C + 1) [] (.inl q)
   rw [hown] at z
   obtain ⟨c', z⟩ := Option.isSome_iff_exists.mp z
   have hc' : (own ++ cl).lookup x = some c := hc
   rw [q1E, z] at hc'
   have e : c' = c := Option.some.inj hc'
   subst e
   have := own_ge (PySem.mem_of_lookup z)
   show @LE.le Nat _ s₂.heap.objs.size c'
   omega
  ·have := ho b hb
   show @Ne Nat b C
   omega
  ·rcases L1 x c e with a | ⟨a, _⟩
   ·have := own_ge a; have := ho b hb; show @Ne Nat c b; omega
   ·exact (f b hb).2.2.2.2.1 x c a
  ·rcases (f b hb).2.2.2.1 with z | z
   ·exact I.ok.noex b o e z
   ·exact absurd (Nat.lt_of_lt_of_le (Heap.lt_size e) (Nat.le_trans I.ok.bsz z)) (Nat.lt_irrefl _)
  ·rcases List.mem_cons.mp (I.stkSub b hs) with z | z
   ·exact (f b hb).2.1 z
   ·exact (f b hb).2.2.1 z
 refine ⟨⟨hX, rfl, I.bare, Un.kept keep, ⟨_, hns, λ i x v e1 e2 e3 => ?_⟩, λ x c e => ?_, I.hok.fresh (by show @LE.le Nat _ s₂.heap.objs.size C; omega), λ x c e => ?_, λ p hp => absurd (show p ∈ ([] : List (Addr × Obj)) from hp) (by simp), I.hok.kept keep, ?_⟩, hD, keep⟩
 ·have e1 : N'[i]? = some x := e1
  unfold inner at e2
  rw [List.getElem?_map] at e2
  cases q : fr[i]? with
  | none => rw [q] at e2; cases e2
  | some o =>
   rw [q] at e2
   cases o with
   | none => cases e2
   | some j =>
    have e2' : (σ[j]?).join = some v := Option.some.inj e2
    have hv : σ[j]? = some (some v) := by
     cases z : σ[j]? with
     | none => rw [z] at e2'; cases e2'
     | some o => rw [z] at e2'; rw [show o = some v from e2']
    obtain ⟨x', a1, a2, a3⟩ := S.fre i j q
    rw [e1] at a1; cases a1
    obtain ⟨m, hn, hl⟩ := I.loc
    have ko := S.out _ a3 rfl
    obtain ⟨u, r, l⟩ := hl j x v a2 hv (ko.elim (λ z => .inr (.inl z)) λ z => .inr (.inr z))
    rcases l with ⟨k, _⟩ | ⟨k, c, e, z⟩
    ·have k' : X.env.scope.names.lookup x = some .local := k
     rcases ko with w | w <;> (rw [show X.env.scope.names.lookup x = _ from w] at k'; cases k')
    ·refine ⟨u, r, .inr ⟨?_, c, cl_get a3 e, z.keeps keep⟩⟩
     show (relabel scope X.env).names.lookup x = some .cell \/ (relabel scope X.env).names.lookup x = some .free
     rw [q1t, q0D S.snd a3]
     simp only [Option.map_some]
     split
     ·exact .inl rfl
     ·exact .inr rfl
 ·rcases L1 x c e with a | ⟨a, _⟩
  ·exact ⟨none, (ok.empty x c a).1⟩
  ·obtain ⟨v, z⟩ := I.cell x c a
   exact ⟨v, z.keeps keep⟩
 ·rcases L1 x c e with a | ⟨a, _⟩
  ·exact I.hok.fresh (by have := own_ge a; show @LE.le Nat _ s₂.heap.objs.size c; omega)
  ·exact I.freeC x c a
 ·show (inner fr σ).length = N'.length
  unfold inner
  rw [List.length_map, S.len]
end
noncomputable def PTs (X : Cx) (ifs : List Expr) (t : TT) : Prop :=
 ∀ (pins : List (Addr × Obj)) (s : Shared) (σ : St) (H : Hp) (Q : Bool -> Hp -> Prop), Inv X pins σ H s -> t σ H Q ->
  wpAny (model X.prog X.w) X.A (forIn ifs true λ c r => if r = true then do let ok ← isTrue c X.env (eval c X.env); pure (ForInStep.yield ok) else pure (ForInStep.yield r)) (TP X pins σ Q) X.xe s
noncomputable def tYes : TT := λ _ H Q => Q true H
theorem z1C {X : Cx} : PTs X [] tYes := λ _ _ _ H _ I h => wpAny_tests_nil ⟨H, I, h⟩
theorem z1G {X : Cx} {c : Expr} {t : TT} (h : PT X c t) : PTs X [c] t := λ pins s σ H Q I hq => wpAny_tests_one (h pins s σ H Q I hq)
noncomputable def z1k (J : It) (g : TG) (tc : TT) (te : TE) (Fin : List V -> Hp -> Prop) (σ : St) (H : Hp) : Prop :=
 ∃ W : Nat -> Nat -> List V -> St -> Hp -> Prop, (∃ m, W 0 m [] σ H) /\ ∀ i m ys σ H, W i m ys σ H ->
  (J.stop i H /\ Fin ys H) \/ (J.go i H /\ ys.length < sizeLine /\ ∀ x H', J.yld i H x H' -> g x σ H' λ σ2 H2 => tc σ2 H2 λ b H3 =>
   if b = true then te σ2 H3 λ y H4 => ∃ m', m' < m /\ W (i + 1) m' (ys ++ [y]) σ2 H4 else ∃ m', m' < m /\ W (i + 1) m' ys σ2 H3)
theorem Vals.snoc {xs : List V} {us : List Value} {x : V} {u : Value} (r : Vals xs us) (q : RelV x u) : Vals (xs ++ [x]) (us ++ [u]) := r.append (.cons q .nil)
theorem q6r {X : Cx} {pins : List (Addr × Obj)} {σ : St} {H : Hp} {s₂ : Shared} {N' : List Str} {scope : Scope} {fr : List (Option Nat)} {fp : List Addr} {iter elt tg : Expr} {ifs : List Expr} {pos : Pos} {g : TG} {te : TE} {tc : TT} {it : Addr} {tn : Nat -> Heap -> Prop} {J : It}
  {E : Value -> Shared -> Prop} {Fin : List V -> Hp -> Prop} {RR : Value -> Addr -> Result -> Shared -> Prop}
  (S : CompScope X.N N' scope X.env.scope fr) (hc : X.calm = true)
  (hg : ∀ C cells s₂ H₂ fp, PG (q0s X scope N' C cells s₂ H₂ fp) tg g) (ht : ∀ C cells s₂ H₂ fp, PTs (q0s X scope N' C cells s₂ H₂ fp) ifs tc) (he : ∀ C cells s₂ H₂ fp, PE (q0s X scope N' C cells s₂ H₂ fp) elt te)
  (I : Inv X pins σ H s₂) (T : Turn X.prog X.w X.K tg J fp it tn) (st : tn 0 s₂.heap) (f : ∀ b ∈ fp, FpOk X pins H b) (h : z1k J g tc te Fin (inner fr σ) H)
  (hRR : ∀ D C H' s' m ys, Inv X pins σ (upd H' D (.lst ys)) s' -> H' D = none -> s'.heap.Ns C m -> upd H' D (.lst ys) C = none -> C ≠ X.env.locals -> X.s₀.heap.objs.size <= C -> (∀ x c, X.env.cells.lookup x = some c -> c ≠ C) -> (∀ p ∈ X.pn ++ pins, p.1 ≠ C) -> Fin ys H' -> RR (.ref D) C (.ok .next) s') :
  wpAny (model X.prog X.w) X.A (newList []) (λ acc s₃ => wpAny (model X.prog X.w) X.A (newFunctionEnv scope X.env.globals (q0l X.env.cells scope.names []) [] X.env.qual none .none (some X.env)) (λ cenv s₄ =>
   codeAny (model X.prog X.w) X.A (.compStart (.ListComp elt [⟨tg, iter, ifs, 0⟩] scope pos) 0 (.ref it) acc { cenv with scope := relabel scope X.env }) (RR acc cenv.locals) s₄) E s₃) E s₂ := by
 have ho : ∀ b ∈ fp, b < s₂.heap.objs.size := λ b hb => by
  obtain ⟨o, e, _⟩ := T.obj _ _ st b hb
  exact Heap.lt_size e
 refine wpAny_newObj_type (q5J ?_)
 have hsz1 : (s₂.heap.push q1C).objs.size = s₂.heap.objs.size + 1 := Heap.size_push ..
 obtain ⟨I4, hD4, keep⟩ := q9z (C := s₂.heap.objs.size + 1) S I f ho rfl rfl
 show codeAny _ _ (.compStart _ 0 (.ref it) (.ref s₂.heap.objs.size) (compEnvC scope (cellsFrom ((s₂.heap.push q1C).objs.size + 1) scope.names (q0l X.env.cells scope.names [])) (s₂.heap.push q1C).objs.size X.env)) (RR (.ref s₂.heap.objs.size) (s₂.heap.push q1C).objs.size) { s₂ with heap := pushCells ((s₂.heap.push q1C).push q5k) scope.names }
 rw [hsz1]
 generalize hDe : s₂.heap.objs.size = D at *
 generalize cellsFrom (D + 1 + 1) scope.names (q0l X.env.cells scope.names []) = cells at *
 generalize pushCells ((s₂.heap.push q1C).push q5k) scope.names = h4 at *
 have hfp : ∀ {pins' : List (Addr × Obj)} {H' : Hp}, (∀ b ∈ fp, H' b = none) -> (∀ p ∈ pins', p.1 = D) -> ∀ b ∈ fp, FpOk (q0s X scope N' (D + 1) cells s₂ H fp) pins' H' b := λ {pins' H'} hn hp b hb =>
  ⟨hn b hb, (I4.ok.exf b hb).1, I4.ok.exfs b hb, .inl hb, (I4.ok.exf b hb).2, λ p hp' z => by
   have hp' : p ∈ ([] : List (Addr × Obj)) ++ pins' := hp'
   rw [List.nil_append] at hp'
   have := ho b hb
   rw [← z, hp p hp'] at this
   exact Nat.lt_irrefl _ this⟩
 obtain ⟨W, ⟨m0, w0⟩, turn⟩ := h
 have hDC : D ≠ (q0s X scope N' (D + 1) cells s₂ H fp).env.locals := by show D ≠ D + 1; omega
 have hDcell : ∀ x c, (q0s X scope N' (D + 1) cells s₂ H fp).env.cells.lookup x = some c -> c ≠ D := λ x c e z => by
  obtain ⟨v, o, hoc, hd⟩ := I4.cell x c e
  have q : h4.get? D = some o := by rw [← z]; exact hoc
  rw [hD4] at q; cases q; cases hd
 have hDfs : D ∉ (q0s X scope N' (D + 1) cells s₂ H fp).fs := λ z => by
  obtain ⟨_, o, ho', _⟩ := I4.ok.funs.mem z
  have := Heap.lt_size ho'
  have e : s₂.heap.objs.size = D := hDe
  exact absurd this (by show ¬ D < s₂.heap.objs.size; omega)
 have loop : codeAny (model X.prog X.w) X.A (.compLoop (.ListComp elt [⟨tg, iter, ifs, 0⟩] scope pos) 0 (.ref it) (.ref D) (compEnvC scope cells (D + 1) X.env)) (RR (.ref D) (D + 1)) { s₂ with heap := h4 } := by
  refine q5b (λ n s' => ∃ i ys its k σ' H', Inv (q0s X scope N' (D + 1) cells s₂ H fp) [] σ' H' s' /\ tn i s'.heap /\ (∀ b ∈ fp, H' b = none) /\ H' D = none /\
   s'.heap.get? D = some { cls := .type "list", data := .seq (its : List Value).toArray k } /\ Vals ys its /\ ys.length <= sizeLine /\ W i n ys σ' H') ?_ m0
   ⟨0, [], [], _, _, H, I4, T.keep _ _ _ st λ b _ o e => keep b o e, λ b hb => (f b hb).1, I.hok.fresh (by omega), hD4, .nil, Nat.zero_le _, w0⟩
  rintro n s3 ⟨i, ys, its, k, σ3, H3, I3, st3, fr3, hD3, oD3, rv, hl, w3⟩
  have I3p : Inv (q0s X scope N' (D + 1) cells s₂ H fp) [(D, { cls := .type "list", data := .seq its.toArray k })] σ3 H3 s3 := I3.pins_of λ p hp => by
   have e : p = (D, { cls := .type "list", data := .seq its.toArray k }) := by simpa using hp
   subst e
   exact ⟨oD3, hD3, hDC, hDfs, λ v z => by cases z⟩
  have pinD : ∀ p ∈ [((D : Addr), ({ cls := .type "list", data := .seq its.toArray k } : Obj))], p.1 = D := λ p hp => by
   have e : p = (D, { cls := .type "list", data := .seq its.toArray k }) := by simpa using hp
   subst e; rfl
  rcases turn i n ys σ3 H3 w3 with ⟨stop, fin⟩ | ⟨go, hlt, step⟩
  ·refine thn (T.done (q0s X scope N' (D + 1) cells s₂ H fp) rfl rfl rfl hc i _ s3 σ3 H3 _ I3p (hfp fr3 pinD) st3 stop) λ r s4 ⟨hr, I4'⟩ => ?_
   subst hr
   have oD := (I4'.pin (D, _) (List.mem_append_right _ List.mem_cons_self)).1
   have un : Un (frs X.stack) fp H H3 s₂.heap s4.heap := I4'.base
   have hn : s₂.heap.get? D = none := Heap.get?_none_of_le (by rw [hDe]; exact Nat.le_refl _)
   obtain ⟨mC, hnC, _⟩ := I4'.loc
   refine hRR D (D + 1) H3 s4 mC ys (I.call' I4'.os (un.track hD3 hn) (I4'.hok.track hD3 ⟨hl, its, k, rv, oD⟩) I4'.bare λ b hb => ?_) hD3 hnC ?_ ?_ ?_ (λ x c e => ?_) (λ p hp => ?_) fin
   ·obtain ⟨_, f1, f2, f3, f4, f5⟩ := f b hb
    exact ⟨f3, f1, f4, f5⟩
   ·rw [q0j (show @Ne Nat (D + 1) D by omega)]; exact I4'.free
   ·have q : @LT.lt Nat _ X.env.locals s₂.heap.objs.size := I.lt
    show @Ne Nat (D + 1) X.env.locals
    omega
   ·have q : @LE.le Nat _ X.s₀.heap.objs.size s₂.heap.objs.size := I.sz
    show @LE.le Nat _ X.s₀.heap.objs.size (D + 1)
    omega
   ·obtain ⟨v, z⟩ := I.cell x c e
    have q : @LT.lt Nat _ c s₂.heap.objs.size := z.lt
    show @Ne Nat c (D + 1)
    omega
   ·have q : @LT.lt Nat _ p.1 s₂.heap.objs.size := Heap.lt_size (I.pin p hp).1
    show @Ne Nat p.1 (D + 1)
    omega
  ·refine thn (T.item (q0s X scope N' (D + 1) cells s₂ H fp) rfl rfl rfl hc i _ s3 σ3 H3 _ I3p (hfp fr3 pinD) st3 go) λ r s4 ⟨u, hr, h4'⟩ => ?_
   subst hr
   refine thn h4' λ _ s5 ⟨x, H5, I5, r5, y5, st5, fr5⟩ => ?_
   have I5' := I5.pinned (hfp fr5 pinD) (T.obj _ _ st5)
   refine wpAny_mono (hg (D + 1) cells s₂ H fp _ s5 σ3 H5 x u _ I5' r5 (step x H5 y5)) (λ _ s6 ⟨σ6, H6, I6, q6⟩ => ?_) λ _ _ z => z.elim
   refine wpAny_mono (ht (D + 1) cells s₂ H fp _ s6 σ6 H6 _ I6 q6) (λ b s7 ⟨H7, I7, q7⟩ => ?_) λ _ _ z => z.elim
   have fpK : ∀ {H' : Hp} {s' : Shared}, Inv (q0s X scope N' (D + 1) cells s₂ H fp) ([(D, { cls := .type "list", data := .seq its.toArray k })] ++ q5g fp s5.heap) σ6 H' s' -> tn (i + 1) s'.heap /\ (∀ b ∈ fp, H' b = none) /\ s'.heap.get? D = some { cls := .type "list", data := .seq its.toArray k } /\ H' D = none := λ {H' s'} J' => by
    refine ⟨T.keep _ _ _ st5 λ b hb o e => (J'.pin (b, o) (List.mem_append_right _ (List.mem_append_right _ (q2g hb e)))).1, λ b hb => ?_, ?_, ?_⟩
    ·obtain ⟨o, e, d⟩ := T.obj _ _ st5 b hb
     exact (J'.pin (b, o) (List.mem_append_right _ (List.mem_append_right _ (q2g hb e)))).2.1
    ·exact (J'.pin (D, _) (List.mem_append_right _ (List.mem_append_left _ List.mem_cons_self))).1
    ·exact (J'.pin (D, _) (List.mem_append_right _ (List.mem_append_left _ List.mem_cons_self))).2.1
   cases b with
   | false =>
    rw [if_neg Bool.false_ne_true] at q7 ⊢
    obtain ⟨m', hm, w7⟩ := q7
    obtain ⟨k1, k2, k3, k4⟩ := fpK I7
    exact ⟨m', hm, i + 1, ys, its, k, σ6, H7, I7.pins_of (λ p hp => (nomatch hp)), k1, k2, k4, k3, rv, hl, w7⟩
   | true =>
    rw [if_pos rfl] at q7 ⊢
    refine wpAny_mono (he (D + 1) cells s₂ H fp _ s7 σ6 H7 _ I7 q7) (λ y s8 ⟨v8, H8, I8, r8, q8⟩ => ?_) λ _ _ z => z.elim
    obtain ⟨m', hm, w8⟩ := q8
    obtain ⟨k1, k2, k3, k4⟩ := fpK I8
    have hits : its.length <= sizeLine := by rw [← rv.length]; exact hl
    refine append_at k3 (λ h9 hs9 hD9 => ?_) (by rw [List.size_toArray]; exact hits)
    have I9 : Inv (q0s X scope N' (D + 1) cells s₂ H fp) [] σ6 H8 s8 := I8.pins_of λ p hp => (nomatch hp)
    refine ⟨m', hm, i + 1, ys ++ [v8], its ++ [y], k + 1, σ6, H8, I9.turned (it := D) (t' := s8.toks) (λ b o hb e => (hs9.2 b hb).trans e) k4 hDC (.inr (by show s₂.heap.objs.size <= D; omega)) hDcell (λ p hp => (nomatch hp)), ?_, k2, k4, ?_, rv.snoc r8, ?_, w8⟩
    ·exact T.keep _ _ _ k1 λ b hb o e => (hs9.2 b (by have q : @LT.lt Nat _ b D := ho b hb; show @Ne Nat b D; omega)).trans e
    ·rw [hD9, List.push_toArray]
    ·rw [List.length_append, List.length_singleton]; omega
 exact codeAny_compStart_list loop (T.self X.A 0 _ _ _ (T.keep _ _ _ st λ b _ o e => keep b o e) loop)
noncomputable def z1m (fr : List (Option Nat)) (wi : TI) (g : TG) (tc : TT) (te : TE) : TE := λ σ H Q => wi σ H λ J H1 => z1k J g tc te (λ ys H' => ∀ p, H' p = none -> Q (.ref p) (upd H' p (.lst ys))) (inner fr σ) H1
theorem z1E {X : Cx} {N' : List Str} {scope : Scope} {fr : List (Option Nat)} {iter elt tg : Expr} {ifs : List Expr} {pos : Pos} {wi : TI} {g : TG} {te : TE} {tc : TT} (S : CompScope X.N N' scope X.env.scope fr) (hc : X.calm = true) (hi : PI X tg iter wi)
  (hg : ∀ C cells s₂ H₂ fp, PG (q0s X scope N' C cells s₂ H₂ fp) tg g) (ht : ∀ C cells s₂ H₂ fp, PTs (q0s X scope N' C cells s₂ H₂ fp) ifs tc) (he : ∀ C cells s₂ H₂ fp, PE (q0s X scope N' C cells s₂ H₂ fp) elt te)
  (hs : ∀ x, foldedSetIterable iter X.env x = pure x := by intro _; rfl) : PE X (.ListComp elt [⟨tg, iter, ifs, 0⟩] scope pos) (z1m fr wi g tc te) := by
 intro pins s σ H Q I h
 rw [eval_ListComp]
 have hfree : ∀ y ∈ scope.names, y.2 = NameKind.free -> ∃ c, X.env.cells.lookup y.1 = some c := λ y hy hk => I.ok.has y.1 (S.out y hy hk)
 refine wpAny_comprehension_free (use := none) rfl hs (q2b hfree) S.kind (λ x hx hl => q0D S.snd (by rw [← hl]; exact hx)) (thn (hi pins s σ H _ I h) λ v s1 h1 => thn h1 λ itv s2 h2 => ?_)
 obtain ⟨it, fp, tn, J, H2, e, I2, T, st2, f2, w⟩ := h2
 subst e
 refine q6r (RR := λ acc C => compPost (model X.prog X.w) X.A X.xe none (EP X pins σ Q) acc C) S hc hg ht he I2 T st2 f2 w ?_
 intro D C H' s' m ys I' hD hnC hCn hCL hCs hCc hCp fin
 exact ⟨m, hnC, λ h' hs' => ⟨.ref D, _, I'.turned (it := C) (t' := s'.toks) (λ b o hb e => (hs'.2 b hb).trans e) hCn hCL (.inr hCs) hCc hCp, rfl, fin D hD⟩⟩
theorem q6X {X : Cx} {N' : List Str} {scope : Scope} {fr : List (Option Nat)} {iter elt tg : Expr} {ifs : List Expr} {pos spos py : Pos} {y : Str} {i : Nat} {wi : TI} {g : TG} {te : TE} {tc : TT} (S : CompScope X.N N' scope X.env.scope fr) (hc : X.calm = true) (hN : X.N.Nodup) (hiN : X.N[i]? = some y)
  (hy : X.env.scope.names.lookup y = some .local) (hi : PI X tg iter wi)
  (hg : ∀ C cells s₂ H₂ fp, PG (q0s X scope N' C cells s₂ H₂ fp) tg g) (ht : ∀ C cells s₂ H₂ fp, PTs (q0s X scope N' C cells s₂ H₂ fp) ifs tc) (he : ∀ C cells s₂ H₂ fp, PE (q0s X scope N' C cells s₂ H₂ fp) elt te)
  (hsw : swapsWith (.ListComp elt [⟨tg, iter, ifs, 0⟩] scope pos) (some (.Name y py)) spos.line X.env = pure true := by rfl)
  (hs : ∀ x, foldedSetIterable iter X.env x = pure x := by intro _; rfl) : PS X (.Assign [.Name y py] (.ListComp elt [⟨tg, iter, ifs, 0⟩] scope pos) spos) (tAsg (z1m fr wi g tc te) (q8p i)) := by
 intro pins s σ H Dn I h
 rw [exec_Assign_Name_used _ _ _ _ hsw]
 refine wpAny_bind (wpAny_standAt (wpAny_bind ?_))
 show wpAny _ _ (do let _ ← comprehension (.ListComp elt [⟨tg, iter, ifs, 0⟩] scope pos) scope X.env _ (newList []) false (eval iter X.env) (some (assign (.Name y py) X.env))) _ _ s
 have hfree : ∀ y ∈ scope.names, y.2 = NameKind.free -> ∃ c, X.env.cells.lookup y.1 = some c := λ y hy hk => I.ok.has y.1 (S.out y hy hk)
 refine wpAny_bind (wpAny_mono (wpAny_comprehension_free (use := some (assign (.Name y py) X.env)) (Q := λ _ s' => SP X pins Dn .next s') rfl hs (q2b hfree) S.kind (λ x hx hl => q0D S.snd (by rw [← hl]; exact hx))
  (thn (hi pins s σ H _ I h) λ v s1 h1 => thn h1 λ itv s2 h2 => ?_)) (λ _ s' hq => wpAny_pure (wpAny_pure hq)) λ _ _ e => e)
 obtain ⟨it, fp, tn, J, H2, e, I2, T, st2, f2, w⟩ := h2
 subst e
 refine q6r (RR := λ acc C => compPost (model X.prog X.w) X.A X.xe (some (assign (.Name y py) X.env)) (λ _ s' => SP X pins Dn .next s') acc C) S hc hg ht he I2 T st2 f2 w ?_
 intro D C H' s' m ys I' hD hnC hCn hCL hCs hCc hCp fin
 refine wpAny_assign_Name (q5d (v := .ref D) I' hN hiN (Or.inl hy) rfl (λ s'' I'' ⟨a, hsb, ha⟩ => ⟨m, hnC.sameBut hsb ?_, λ h' hs' => ⟨_, _, I''.turned (it := C) (t' := s''.toks) (λ b o hb e => (hs'.2 b hb).trans e) hCn hCL (.inr hCs) hCc hCp, fin D hD⟩⟩) (.inr hy))
 rcases ha with z | z
 ·rw [z]; exact hCL
 ·exact Ne.symm (hCc y a z)
end L2
end
section
namespace L2
open PySem PySem.Spec PyProof.Rows
structure Fly (P : Program) (w : World) (base : Heap) (l : List Env) (ea : Addr) (C : Value) (H : Hp) (B h : Heap) : Prop where
 fly : ∃ a0, Heap.FlyingW B l ea C a0 h
 bas : ∀ b o, base.get? b = some o -> B.get? b = some o
 hok : HOk P w H B
theorem Fly.stays {P : Program} {w : World} {base : Heap} {l : List Env} {ea : Addr} {C : Value} {H : Hp} {B h : Heap} (F : Fly P w base l ea C H B h) : ∀ b o, B.get? b = some o -> h.get? b = some o := by
 obtain ⟨a0, f⟩ := F.fly
 exact f.1
noncomputable def CXx (P : Program) (w : World) (base : Heap) : CXT := λ outer H s E e s' => ∃ (ea : Addr) (C : Value) (H' : Hp) (B : Heap), e = .ref ea /\ s'.os = s.os /\ AllBare s'.gens /\ Un (frs outer) [] H H' s.heap s'.heap /\
 Fly P w base outer ea C H' B s'.heap /\ (∀ b o, s.heap.get? b = some o -> b ∉ frs outer -> ∃ o', B.get? b = some o') /\ E C none H'
theorem Un.flown {fs ex : List Addr} {H H' : Hp} {h0 h1 h2 B : Heap} (u : Un fs ex H H' h0 h1) (cov : ∀ b o, h0.get? b = some o -> b ∉ fs -> b ∉ ex -> ∃ o', B.get? b = some o') (s1 : ∀ b o, B.get? b = some o -> h1.get? b = some o) (s2 : ∀ b o, B.get? b = some o -> h2.get? b = some o)
  (up : h1.UpToSlots h2) (fd : ∀ b ∈ fs, b ∉ ex /\ H b = none /\ ∀ o, h0.get? b = some o -> ∀ vs, o.data ≠ .fields vs) : Un fs ex H H' h0 h2 := by
 have keep : ∀ b o, h0.get? b = some o -> H b = none -> b ∉ fs -> b ∉ ex -> h2.get? b = some o := λ b o e n hb hx => by
  have e1 := u.keep b o e n hb hx
  obtain ⟨o', q⟩ := cov b o e hb hx
  have q1 := s1 b o' q
  rw [e1] at q1; cases q1
  exact s2 b o q
 have slot : ∀ b o, h0.get? b = some o -> H b = none -> b ∈ fs -> b ∉ ex -> ∃ sl, h2.get? b = some { o with slots := sl } := λ b o e n hb hx => by
  obtain ⟨sl, e1⟩ := u.slot b o e n hb hx
  obtain ⟨sl', e2⟩ := up b _ e1 ((fd b hb).2.2 o e)
  exact ⟨sl', e2⟩
 refine ⟨keep, slot, u.free, λ b o e hx => ?_, u.tups, u.frzs, u.tbls⟩
 by_cases hb : b ∈ fs
 ·obtain ⟨sl, q⟩ := slot b o e (fd b hb).2.1 hb hx
  exact ⟨_, q⟩
 ·obtain ⟨o', q⟩ := cov b o e hb hx
  exact ⟨o', s2 b o' q⟩
section
variable {X : Cx} {pins : List (Addr × Obj)} {σ : St} {H : Hp} {s : Shared}
theorem Inv.frameData (I : Inv X pins σ H s) : ∀ b ∈ X.fs, b ∉ X.ex /\ X.H₀ b = none /\ ∀ o, X.s₀.heap.get? b = some o -> ∀ vs, o.data ≠ .fields vs := λ b hb => by
 refine ⟨λ z => I.ok.exfs b z hb, I.ok.frf b hb, λ o e => ?_⟩
 obtain ⟨_, o', e', d⟩ := I.ok.funs.mem hb
 rw [e] at e'; cases e'
 exact d
theorem Inv.notStk (I : Inv X pins σ H s) {b : Addr} {o : Obj} (e : X.s₀.heap.get? b = some o) (hb : b ∉ X.fs) : b ∉ frs X.stack := λ z => by
 rcases List.mem_cons.mp (I.stkSub b z) with q | q
 ·exact absurd (Nat.lt_of_lt_of_le (Heap.lt_size e) I.ok.above) (by rw [q]; exact Nat.lt_irrefl _)
 ·exact hb q
end
section
variable {P : Program} {w : World} {K : PySem.W.Frag} {mg : Str -> Option Value} {base : Heap} {N : List Str} {qual : Str} {scope : Scope} {f : Addr} {cd : Value} {A : Around} {outer : List Env} {s : Shared} {H : Hp} {E : XK}
noncomputable abbrev cxD (P : Program) (w : World) (K : PySem.W.Frag) (mg : Str -> Option Value) (base : Heap) (N : List Str) (qual : Str) (scope : Scope) (f : Addr) (cd : Value) (A : Around) (outer : List Env) (s : Shared) (H : Hp) (E : XK) : Cx :=
 cxOf (CXx P w base) P w K mg base N qual scope f cd A outer s H E
theorem q5z {pins : List (Addr × Obj)} {σ : St} {H1 : Hp} {s1 : Shared} {h' : Heap} {ea : Addr} {C : Value} {vs : List Value} (I : Inv (cxD P w K mg base N qual scope f cd A outer s H E) pins σ H1 s1) (hx : Heap.MadeExcOf s1.heap h' ea C vs) (hE : E C none H1) :
  (cxD P w K mg base N qual scope f cd A outer s H E).xe (.ref ea) { s1 with heap := h' } := by
 have hstk := I.stack
 have hin : ∀ env ∈ (cxD P w K mg base N qual scope f cd A outer s H E).stack, ∀ a, env.frame = some a -> a ∈ frs (cxD P w K mg base N qual scope f cd A outer s H E).stack := λ env he b hb => List.mem_filterMap.mpr ⟨env, he, hb⟩
 have hB1 : ∀ b o, (PySem.W.hideAll s1.heap (frs (cxD P w K mg base N qual scope f cd A outer s H E).stack)).get? b = some o -> s1.heap.get? b = some o := λ b o q => PySem.W.of_hideAll _ q
 have hHid : ∀ b u, H1 b ≠ none -> s1.heap.get? b = some u -> (PySem.W.hideAll s1.heap (frs (cxD P w K mg base N qual scope f cd A outer s H E).stack)).get? b = some u := λ b u hb q => PySem.W.hideAll_get _ q λ z => hb (I.stkFree b z)
 refine wpAny_leaves_madeW (base := PySem.W.hideAll s1.heap (frs (cxD P w K mg base N qual scope f cd A outer s H E).stack)) (h := s1.heap) I.ok.frames rfl hB1 (PySem.W.funFrames_hide hstk hin) hx λ h2 t fl tup nt up => ?_
 have hcov : ∀ b o, s.heap.get? b = some o -> b ∉ frs outer -> ∃ o', (PySem.W.hideAll s1.heap (frs (cxD P w K mg base N qual scope f cd A outer s H E).stack)).get? b = some o' := λ b o e hb => by
  obtain ⟨o1, e1⟩ := I.base.there b o e (by intro z; exact nomatch z)
  exact ⟨o1, PySem.W.hideAll_get _ e1 (I.notStk e hb)⟩
 refine ⟨ea, C, H1, _, rfl, I.os, I.bare, I.base.flown (λ b o e hb _ => hcov b o e hb) hB1 fl.1 ((Heap.UpToSlots.of_keeps hx.keeps).trans up) I.frameData, ⟨⟨_, fl⟩, λ b o e => ?_, λ a o q => ?_⟩, hcov, hE⟩
 ·refine PySem.W.hideAll_get _ (I.bk b o e) λ z => ?_
  have q : base.get? b = none := (hstk.mem z).1
  rw [q] at e; cases e
 ·refine (I.hok a o q).stay (λ b u hc e => hHid b u ?_ e) (λ _ z => z) λ _ _ z => z
  rcases hc with z | z
  ·subst z; rw [q]; intro z; cases z
  ·rw [z]; intro z; cases z
theorem q9k {pins : List (Addr × Obj)} {σ : St} {H1 : Hp} {s1 : Shared} {ea : Addr} {C : Value} {B : Heap} (I : Inv (cxD P w K mg base N qual scope f cd A outer s H E) pins σ H1 s1) (F : Fly P w base (cxD P w K mg base N qual scope f cd A outer s H E).stack ea C H1 B s1.heap)
  (cov : ∀ b o, s.heap.get? b = some o -> b ∉ frs (cxD P w K mg base N qual scope f cd A outer s H E).stack -> ∃ o', B.get? b = some o') (hE : E C none H1) : (cxD P w K mg base N qual scope f cd A outer s H E).xe (.ref ea) s1 := by
 obtain ⟨a0, fl⟩ := F.fly
 refine wpAny_leaves_onW I.ok.frames rfl fl λ h2 fl2 up => ?_
 have hcov : ∀ b o, s.heap.get? b = some o -> b ∉ frs outer -> ∃ o', B.get? b = some o' := λ b o e hb => cov b o e (I.notStk e hb)
 exact ⟨ea, C, H1, B, rfl, I.os, I.bare, I.base.flown (λ b o e hb _ => hcov b o e hb) F.stays fl2.1 up I.frameData, ⟨⟨_, fl2⟩, F.bas, F.hok⟩, hcov, hE⟩
theorem q7l : q7Q (CXx P w base) (cxD P w K mg base N qual scope f cd A outer s H E) E := by
 intro pins σ H0 s0 e s' I hcx
 obtain ⟨ea, C, H', B, rfl, os, bare, un, F, cov, hE⟩ := hcx
 have I' : Inv (cxD P w K mg base N qual scope f cd A outer s H E) pins σ H' s' := I.call' os un (F.hok.kept F.stays) bare λ b hb => nomatch hb
 refine q9k I' F (λ b o e hb => ?_) hE
 obtain ⟨o1, e1⟩ := I.base.there b o e (by intro z; exact nomatch z)
 exact cov b o1 e1 hb
end
noncomputable def excO (ea : Addr) (C : Value) : HO := .ext λ h => ∃ oe vs, h.get? ea = some oe /\ oe.cls = C /\ oe.data = .fields vs
noncomputable def XP (X : Cx) (pins : List (Addr × Obj)) (E : St -> Value -> Hp -> Prop) (e : Value) (s' : Shared) : Prop := ∃ (ea : Addr) (C : Value) (σ' : St) (H' : Hp) (B : Heap), e = .ref ea /\ Inv X pins σ' H' s' /\ Fly X.prog X.w X.base X.stack ea C H' B s'.heap /\
 (∀ b o, X.s₀.heap.get? b = some o -> b ∉ frs X.stack -> b ∉ X.ex -> ∃ o', B.get? b = some o') /\ (∀ p ∈ X.pn ++ pins, ∃ o', B.get? p.1 = some o') /\ E σ' C H'
section
variable {X : Cx} {pins pins' : List (Addr × Obj)} {σ : St} {H : Hp} {s : Shared} {E : St -> Value -> Hp -> Prop} {ea : Addr}
theorem Inv.track {a : Addr} {o : HO} (I : Inv X pins σ H s) (hn : H a = none) (h0 : X.s₀.heap.get? a = none) (hL : a ≠ X.env.locals) (hc : ∀ x c, X.env.cells.lookup x = some c -> c ≠ a) (hp : ∀ p ∈ X.pn ++ pins, p.1 ≠ a) (new : q0Y X.prog X.w (upd H a o) s.heap a o) :
  Inv X pins σ (upd H a o) s :=
 ⟨I.ok, I.os, I.bare, I.base.track hn h0, I.loc, I.cell, by rw [q0j (Ne.symm hL)]; exact I.free, λ x c e => by rw [q0j (hc x c e)]; exact I.freeC x c e, λ p hq => by
  obtain ⟨e, n, ne, nf, d⟩ := I.pin p hq
  exact ⟨e, by rw [q0j (hp p hq)]; exact n, ne, nf, d⟩, I.hok.track hn new, I.len⟩
end
noncomputable def q3B (CX : CXT) (X : Cx) (E : St -> XK) : Prop := ∀ (pins : List (Addr × Obj)) (σ : St) (H : Hp) (s : Shared) (e : Value) (s' : Shared), Inv X pins σ H s -> CX X.stack H s (E σ) e s' -> X.xe e s'
theorem q7Q.s {CX : CXT} {X : Cx} {E : XK} (h : q7Q CX X E) : q3B CX X λ _ => E := λ pins σ H s e s' I q => h pins σ H s e s' I q
section
variable {X : Cx} {CX : CXT} {k : Nat} {f C : Addr} {fd : FuncData} {ps : List Str} {sp : Sp} {dvs : List V} {ds : List Value} {E : St -> XK} {x m : Str} {p pos apos : Pos} {e o : Expr} {es : List Expr} {ta : TE} {t : TA}
theorem z2s {pins : List (Addr × Obj)} {σ : St} {H : Hp} {s : Shared} {Q : VK} {us : List Value} {vs : List V} (F : FnOk X.prog X.w X.K X.mg X.base CX k f fd ps sp) (hr : Room k X.A) (hb : q2w X.K fd ps ds) (hd : Vals dvs ds) (hx : q3B CX X E)
  (I : Inv X pins σ H s) (r : Vals vs us) (h : sp (vs ++ dvs) H Q (E σ)) : wpAny (model X.prog X.w) X.A (call (.ref f) us) (EP X pins σ Q) X.xe s := by
 have r2 : Vals (vs ++ dvs) (us ++ ds) := r.append hd
 have hl : (us ++ ds).length = ps.length := by rw [← r2.length]; exact F.len _ _ _ _ h
 refine wpAny_call (codeAny_mono (F.run X.A X.stack s H ⟨us, []⟩ (us ++ ds) (vs ++ dvs) Q (E σ) hr I.env0 (hb s us I.kIn hl) r2 h) λ r s' hq => ?_)
 cases r with
 | error e => exact hx pins σ H s e s' I hq
 | ok fl =>
  cases fl with
  | ret u => exact I.after hq
  | next => exact False.elim hq
  | brk => exact False.elim hq
  | cont => exact False.elim hq
noncomputable def z3G (sp : Sp) (dvs : List V) (E : St -> XK) (t : TA) : TE := λ σ H Q => t σ H λ vs H1 => sp (vs ++ dvs) H1 Q (E σ)
theorem z0d (F : FnOk X.prog X.w X.K X.mg X.base CX k f fd ps sp) (hr : Room k X.A) (hg : Gl X x) (hm : X.mg x = some (.ref f)) (hk : PySem.W.keepIn X.K (.ref f) = true) (hb : q2w X.K fd ps ds) (hd : Vals dvs ds) (hx : q3B CX X E)
  (ha : PA X (e :: es) t) (hdb : (x == ("__debug__" : Str)) = false := by decide) (he : starEach (e :: es) X.env = (false, eval e X.env) :: starEach es X.env := by rfl) (hpl : (backTo pos (starEach es X.env)).any (·.1) = false := by rfl) :
  PE X (.Call (.Name x p) (e :: es) [] pos) (z3G sp dvs E t) := by
 intro pins s σ H Q I h
 refine wpAny_Call_Name_kw (q8E I hg hm ?_ hdb)
 refine PySem.W.callWith_K (h₀ := X.base) I.ok.mod.kin hk (thn (ha pos pins s σ H _ I h) λ us s1 ⟨vs, H1, I1, r, q⟩ => ⟨I1.kIn, ?_⟩) he hpl
 exact z2s F hr hb hd hx I1 r q
end
noncomputable def q6f (X : Cx) (E : St -> XK) : Prop := ∀ (pins : List (Addr × Obj)) (σ : St) (H : Hp) (s : Shared) (h' : Heap) (ea : Addr) (C : Value) (vs : List Value), Inv X pins σ H s -> Heap.MadeExcOf s.heap h' ea C vs -> E σ C none H -> X.xe (.ref ea) { s with heap := h' }
theorem q7p {P : Program} {w : World} {K : PySem.W.Frag} {mg : Str -> Option Value} {base : Heap} {N : List Str} {qual : Str} {scope : Scope} {f : Addr} {cd : Value} {A : Around} {outer : List Env} {s : Shared} {H : Hp} {E : XK} :
  q6f (cxD P w K mg base N qual scope f cd A outer s H E) λ _ => E := λ pins σ H1 s1 h' ea C vs I hx hE => q5z I hx hE
end L2
end
section
namespace L2
open PySem PySem.W PySem.Spec PySem.Calls PyProof.Rows PySem.Builtin PySem.Builtin.ObjectAttr PySem.Builtin.Getset_descriptor
section
variable {prog : Program} {w : World} {K : Frag} {x D : Addr} {M : Model} {h : Heap}
structure ClsK (K : Frag) (D : Addr) : Prop where
 ga : findIn K (.ref D) "__getattribute__" = some (some (.builtin "BaseException.__getattribute__"))
 gt : findIn K (.ref D) "__getattr__" = some none
 mb : mroIn K D (.type "BaseException") = some true
 hd : hasDictIn K D = true
 fc : findIn K (.ref D) "__class__" = some (some (.builtin "object.__class__"))
 sg : specialIn K (.builtin "object.__class__") "__get__" = some (some (.builtin "getset_descriptor.__get__"))
 tk : takesIn K (.builtin "object.__class__") = some true
 mo : mroIn K D (.type "object") = some true
variable {A : Around} {E : Value -> Shared -> Prop} {s : Shared}
end
end L2
end
section
namespace L2
open PySem PySem.Spec PyProof.Rows
structure Src (P : Program) (w : World) (ia la : Addr) (vs : Array Value) (S : Nat -> Heap -> Prop) : Prop where
 keep : ∀ k h h', S k h -> (∀ o, h.get? ia = some o -> h'.get? ia = some o) -> (∀ o, h.get? la = some o -> h'.get? la = some o) -> S k h'
 there : ∀ k h, S k h -> ∃ o xs, h.get? ia = some o /\ o.data = .fields xs
 step : ∀ {A : Around} {E : Value -> Shared -> Prop} {s : Shared} {Q : Value -> Shared -> Prop} (k : Nat) (x : Value), S k s.heap -> vs[k]? = some x -> (∀ h', S (k + 1) h' -> Heap.SameBut ia s.heap h' -> Q x { s with heap := h' }) ->
  wpAny (model P w) A (Builtin.SmallTypes.nextOf (.ref ia)) Q E s
 stop : ∀ {A : Around} {E : Value -> Shared -> Prop} {s : Shared} {Q : Value -> Shared -> Prop} (k : Nat), A.handled = none -> S k s.heap -> vs[k]? = none ->
  (∀ h' e, Heap.ExtBut ia s.heap h' -> (∃ o, h'.get? e = some o /\ o.cls = .type "StopIteration") -> E (.ref e) { s with heap := h' }) -> wpAny (model P w) A (Builtin.SmallTypes.nextOf (.ref ia)) Q E s
noncomputable def sL (ia la : Addr) (vs : Array Value) : Nat -> Heap -> Prop := λ k h => h.IsListIter ia la k /\ h.IsList la vs
noncomputable def sT (ia la : Addr) (vs : Array Value) : Nat -> Heap -> Prop := λ k h => h.IsTupleIter ia la k /\ h.IsTuple la vs
theorem z0a {P : Program} {w : World} {ia la : Addr} {vs : Array Value} (ne : la ≠ ia) : Src P w ia la vs (sL ia la vs) where
 keep := λ k h h' ⟨p, q⟩ e1 e2 => ⟨p.at e1, q.at e2⟩
 there := λ k h ⟨p, q⟩ => by obtain ⟨o, e, _, d⟩ := p; exact ⟨o, _, e, d⟩
 step := λ k x ⟨p, q⟩ hx hq => wpAny_nextOf_list_item p q hx λ h' p' sb => hq h' ⟨p', q.extBut sb.extBut ne⟩ sb
 stop := λ k hh ⟨p, q⟩ hx hq => wpAny_nextOf_list_end hh p q hx hq
section
variable {P : Program} {w : World} {A : Around} {E : Value -> Shared -> Prop} {s : Shared}
theorem q9s {ja ta : Addr} {k : Nat} {vs : Array Value} {x : Value} {Q : Value -> Shared -> Prop} (p : s.heap.IsTupleIter ja ta k) (q : s.heap.IsTuple ta vs) (hx : vs[k]? = some x) (hq : ∀ h', h'.IsTupleIter ja ta (k + 1) -> Heap.SameBut ja s.heap h' -> Q x { s with heap := h' }) :
  wpAny (model P w) A (Builtin.SmallTypes.nextOf (.ref ja)) Q E s := by
 obtain ⟨ob, e1, e2, e3⟩ := id p
 obtain ⟨ot, f1, _, nn, f3⟩ := q
 unfold Builtin.SmallTypes.nextOf
 refine wpAny_bind (wpAny_callSpecial?_slot (name := Str.ofString "__next__") p.typeIs F.slot_tuple_iterator_next (wpAny_call_entry F.slot_tuple_iterator_next p.typeIs F.entry_tuple_iterator_next ?_ (F.args_tuple_iterator_next_1 _)))
 show wpAny _ _ (field (.ref ja) 0 >>= _) _ _ s
 refine wpAny_bind (wpAny_field e1 e3 (x := .ref ta) rfl ?_)
 show wpAny _ _ (if (Value.ref ta == Value.none) = true then _ else _) _ _ s
 rw [if_neg (show ¬ ((Value.ref ta == Value.none) = true) from Bool.false_ne_true)]
 show wpAny _ _ (field (.ref ja) 1 >>= _) _ _ s
 refine wpAny_bind (wpAny_field e1 e3 (x := .int k 0) rfl ?_)
 show wpAny _ _ (seqItems? (.ref ta) >>= _) _ _ s
 refine wpAny_bind (wpAny_seqItems f1 f3 ?_)
 simp only [Int.toNat_natCast, hx]
 refine wpAny_bind (wpAny_setField e1 e3 (by simp) (wpAny_pure ⟨x, rfl, wpAny_pure (hq _ ?_ (Heap.SameBut.update ..))⟩))
 exact ⟨_, Heap.get?_update_self _ e1 (Obj.isFreed_of_fields (Obj.data_mapFields e3 _)), (Obj.cls_mapFields ..).trans e2, by rw [Obj.data_mapFields e3]; simp [rawInt]⟩
theorem z0k {ja ta : Addr} {k : Nat} {vs : Array Value} {Q : Value -> Shared -> Prop} (hh : A.handled = none) (p : s.heap.IsTupleIter ja ta k) (q : s.heap.IsTuple ta vs) (hx : vs[k]? = none) (hE : ∀ h' e, Heap.ExtBut ja s.heap h' -> (∃ o, h'.get? e = some o /\ o.cls = .type "StopIteration") -> E (.ref e) { s with heap := h' }) :
  wpAny (model P w) A (Builtin.SmallTypes.nextOf (.ref ja)) Q E s := by
 obtain ⟨ob, e1, e2, e3⟩ := id p
 obtain ⟨ot, f1, _, nn, f3⟩ := q
 unfold Builtin.SmallTypes.nextOf
 refine wpAny_bind (wpAny_callSpecial?_slot (name := Str.ofString "__next__") p.typeIs F.slot_tuple_iterator_next (wpAny_call_entry F.slot_tuple_iterator_next p.typeIs F.entry_tuple_iterator_next ?_ (F.args_tuple_iterator_next_1 _)))
 show wpAny _ _ (field (.ref ja) 0 >>= _) _ _ s
 refine wpAny_bind (wpAny_field e1 e3 (x := .ref ta) rfl ?_)
 show wpAny _ _ (if (Value.ref ta == Value.none) = true then _ else _) _ _ s
 rw [if_neg (show ¬ ((Value.ref ta == Value.none) = true) from Bool.false_ne_true)]
 show wpAny _ _ (field (.ref ja) 1 >>= _) _ _ s
 refine wpAny_bind (wpAny_field e1 e3 (x := .int k 0) rfl ?_)
 show wpAny _ _ (seqItems? (.ref ta) >>= _) _ _ s
 refine wpAny_bind (wpAny_seqItems f1 f3 ?_)
 simp only [Int.toNat_natCast, hx]
 refine wpAny_bind (wpAny_rule (wpAny_bind (wpAny_setField e1 e3 (by simp) ?_)))
 show wpAny _ _ (newExc (.type "StopIteration") [] >>= λ y => raiseNew y) _ _ _
 refine wpAny_bind ?_
 simp only [newExc, newTuple]
 refine wpAny_bind (wpAny_newObj_type ?_ (by size_fits)); refine wpAny_bind (m := firstArgMember _ _) (wpAny_of_eq (a := Value.none) (by first | rfl | (simp only [firstArgMember]; rfl)) ?_)
 refine wpAny_newObj_type ?_ (by size_fits); simp only [raiseNew]; refine wpAny_bind (wpAny_handled ?_)
 first | rw [show A.in1.handled = none from hh] | rw [hh]
 refine wpAny_bind (wpAny_pure (wpAny_throw (hE _ _ (((Heap.SameBut.update ..).extBut.push _).push _) ⟨_, Heap.get?_push_size _ rfl, rfl⟩)))
theorem z1I {ia la : Addr} {vs : Array Value} (ne : la ≠ ia) : Src P w ia la vs (sT ia la vs) where
 keep := λ k h h' ⟨p, q⟩ e1 e2 => ⟨by obtain ⟨o, e, r⟩ := p; exact ⟨o, e1 o e, r⟩, by obtain ⟨o, e, r⟩ := q; exact ⟨o, e2 o e, r⟩⟩
 there := λ k h ⟨p, q⟩ => by obtain ⟨o, e, _, d⟩ := p; exact ⟨o, _, e, d⟩
 step := λ k x ⟨p, q⟩ hx hq => q9s p q hx λ h' p' sb => hq h' ⟨p', q.extBut sb.extBut ne⟩ sb
 stop := λ k hh ⟨p, q⟩ hx hq => z0k hh p q hx hq
variable {Z U W a b l1 l2 : Addr} {k : Nat} {vs1 vs2 : Array Value} {S1 S2 : Nat -> Heap -> Prop} {x y c d : Value}
theorem Src.ext {ia la : Addr} {vs : Array Value} {S : Nat -> Heap -> Prop} {h h' : Heap} {e : Addr} (R : Src P w ia la vs S) (q : S k h) (hs : Heap.ExtBut e h h') (n1 : ia ≠ e) (n2 : la ≠ e) : S k h' := R.keep k h h' q (λ o z => hs _ _ n1 z) (λ o z => hs _ _ n2 z)
theorem q9R {Q : Value -> Shared -> Prop} (D : ZipApart Z U W a b l1 l2) (R1 : Src P w a l1 vs1 S1) (R2 : Src P w b l2 vs2 S2) (hz : IsZip s.heap Z U W .none) (hU : IsPair s.heap U (.ref a) (.ref b)) (hW : IsPair s.heap W c d) (h1 : S1 k s.heap) (h2 : S2 k s.heap) (hx : vs1[k]? = some x) (hy : vs2[k]? = some y)
  (hQ : ∀ h', IsZip h' Z U W (rawInt s.heap.objs.size) -> IsPair h' W x y -> S1 (k + 1) h' -> S2 (k + 1) h' -> IsPair h' s.heap.objs.size x y -> h'.objs.size = s.heap.objs.size + 1 -> (∀ e o, e ≠ Z -> e ≠ W -> e ≠ a -> e ≠ b -> s.heap.get? e = some o -> h'.get? e = some o) -> Q (.ref s.heap.objs.size) { s with heap := h' }) :
  wpAny (model P w) A (Builtin.«zip.__next__» ⟨[.ref Z], []⟩) (λ fin s' => ∃ v, fin = .done (.ret v) /\ Q v s') E s := by
 show wpAny _ _ (field (.ref Z) 2 >>= _) _ _ _
 refine wpAny_bind (wpAny_field hz rfl (x := .bool false) rfl ?_)
 show wpAny _ _ (field (.ref Z) 3 >>= _) _ _ _
 refine wpAny_bind (wpAny_field hz rfl (x := .ref U) rfl (wpAny_bind (wpAny_seqItems hU rfl ?_)))
 show wpAny _ _ (Builtin.SmallTypes.ownedTupleIsFree (.ref Z) >>= _) _ _ _
 refine wpAny_bind ?_; unfold Builtin.SmallTypes.ownedTupleIsFree
 refine wpAny_bind (wpAny_field hz rfl (x := .none) rfl (wpAny_pure ?_)); simp only [if_true]
 refine wpAny_bind (wpAny_rule (wpAny_bind (wpAny_field hz rfl (x := .ref W) rfl ?_)))
 refine wpAny_bind (wpAny_setField_rec hz (by simp) λ g1 z1 t1 => ?_)
 replace z1 : IsZip g1 Z U W .ellipsis := z1
 refine wpAny_bind ?_; simp only [List.zipIdx_cons, List.zipIdx_nil, List.forIn_cons, List.forIn_nil]
 refine wpAny_bind (wpAny_bind (wpAny_onRaise ?_)); show wpAny _ _ (Builtin.SmallTypes.nextOf (.ref a) >>= _) _ _ _
 refine wpAny_bind (R1.step k x (R1.ext h1 t1.extBut D.i1z D.l1z) hx λ g2 r2 t2 => wpAny_pure ?_)
 have w2 : IsPair g2 W c d := t2.extBut _ _ D.TOi1 (t1.extBut _ _ D.TOz hW)
 refine wpAny_bind (wpAny_seqItems w2 rfl (wpAny_bind (wpAny_updateSeq_pair w2 λ g3 w3 t3 => ?_)))
 replace w3 : IsPair g3 W x d := w3
 refine wpAny_bind (wpAny_letGo (wpAny_pure ?_))
 refine wpAny_bind (wpAny_bind (wpAny_onRaise ?_)); show wpAny _ _ (Builtin.SmallTypes.nextOf (.ref b) >>= _) _ _ _
 refine wpAny_bind (R2.step k y (R2.ext (R2.ext (R2.ext h2 t1.extBut D.i2z D.l2z) t2.extBut D.i12.symm D.l2i1) t3.extBut D.TOi2.symm D.l2TO) hy λ g4 r4 t4 => wpAny_pure ?_)
 have w4 : IsPair g4 W x d := t4.extBut _ _ D.TOi2 w3
 refine wpAny_bind (wpAny_seqItems w4 rfl (wpAny_bind (wpAny_updateSeq_pair w4 λ g5 w5 t5 => ?_)))
 replace w5 : IsPair g5 W x y := w5
 refine wpAny_bind (wpAny_letGo (wpAny_pure (wpAny_pure (wpAny_bind (wpAny_seqItems w5 rfl (wpAny_bind (wpAny_newTuple ?_)))))))
 have sz : g5.objs.size = s.heap.objs.size := by rw [t5.1, t4.1, t3.1, t2.1, t1.1]
 have z5 : IsZip g5 Z U W .ellipsis := t5.extBut _ _ D.TOz.symm (t4.extBut _ _ D.i2z.symm (t3.extBut _ _ D.TOz.symm (t2.extBut _ _ D.i1z.symm z1)))
 have kk : ∀ e o, e ≠ Z -> e ≠ W -> e ≠ a -> e ≠ b -> s.heap.get? e = some o -> g5.get? e = some o := λ e o n1 n2 n3 n4 z => t5.extBut _ _ n2 (t4.extBut _ _ n4 (t3.extBut _ _ n2 (t2.extBut _ _ n3 (t1.extBut _ _ n1 z))))
 have r15 : S1 (k + 1) g5 := R1.ext (R1.ext (R1.ext r2 t3.extBut D.TOi1.symm D.l1TO) t4.extBut D.i12 D.l1i2) t5.extBut D.TOi1.symm D.l1TO
 have r25 : S2 (k + 1) g5 := R2.ext r4 t5.extBut D.TOi2.symm D.l2TO
 have zlt : Z < g5.objs.size := Heap.lt_size z5
 show wpAny _ _ (Builtin.SmallTypes.ownedTupleHandOut (.ref Z) (.ref g5.objs.size) >>= _) _ _ _
 refine wpAny_bind ?_; unfold Builtin.SmallTypes.ownedTupleHandOut
 have z6 : IsZip (g5.push { cls := .type "tuple", data := .seq #[x, y] }) Z U W .ellipsis := Heap.get?_push_of_some _ z5
 refine wpAny_bind (wpAny_setField_rec z6 (by simp) λ g7 z7 t7 => ?_)
 replace z7 : IsZip g7 Z U W (rawInt g5.objs.size) := z7
 refine wpAny_setField_rec z7 (by simp) λ g8 z8 t8 => ?_
 replace z8 : IsZip g8 Z U W (rawInt g5.objs.size) := z8
 have up : ∀ e o, e ≠ Z -> g5.get? e = some o -> g8.get? e = some o := λ e o n z => t8.extBut _ _ n (t7.extBut _ _ n (Heap.get?_push_of_some _ z))
 have T8 : IsPair g8 g5.objs.size x y := t8.extBut _ _ (Nat.ne_of_gt zlt) (t7.extBut _ _ (Nat.ne_of_gt zlt) (Heap.get?_push_size _ rfl))
 have s8 : g8.objs.size = g5.objs.size + 1 := by rw [t8.1, t7.1, Heap.size_push]
 rw [sz] at z8 T8 s8
 refine wpAny_pure ⟨_, rfl, ?_⟩; show Q (.ref g5.objs.size) _
 rw [sz]
 exact hQ g8 z8 (up _ _ D.TOz w5) (R1.keep _ _ _ r15 (λ o z => up _ o D.i1z z) (λ o z => up _ o D.l1z z)) (R2.keep _ _ _ r25 (λ o z => up _ o D.i2z z) (λ o z => up _ o D.l2z z)) T8 s8 λ e o n1 n2 n3 n4 z => up e o n1 (kk e o n1 n2 n3 n4 z)
theorem q9G {Q : Fin -> Shared -> Prop} (hh : A.handled = none) (D : ZipApart Z U W a b l1 l2) (R1 : Src P w a l1 vs1 S1) (R2 : Src P w b l2 vs2 S2) (hz : IsZip s.heap Z U W .none) (hU : IsPair s.heap U (.ref a) (.ref b)) (hW : IsPair s.heap W c d) (h1 : S1 k s.heap) (h2 : S2 k s.heap) (hend : vs1[k]? = none \/ vs2[k]? = none)
  (hE : ∀ h' e, (∀ f o, f ≠ Z -> f ≠ W -> f ≠ a -> f ≠ b -> s.heap.get? f = some o -> h'.get? f = some o) -> (∃ o, h'.get? e = some o /\ o.cls = .type "StopIteration") -> E (.ref e) { s with heap := h' }) :
  wpAny (model P w) A (Builtin.«zip.__next__» ⟨[.ref Z], []⟩) Q E s := by
 show wpAny _ _ (field (.ref Z) 2 >>= _) _ _ _
 refine wpAny_bind (wpAny_field hz rfl (x := .bool false) rfl ?_)
 show wpAny _ _ (field (.ref Z) 3 >>= _) _ _ _
 refine wpAny_bind (wpAny_field hz rfl (x := .ref U) rfl (wpAny_bind (wpAny_seqItems hU rfl ?_)))
 show wpAny _ _ (Builtin.SmallTypes.ownedTupleIsFree (.ref Z) >>= _) _ _ _
 refine wpAny_bind ?_; unfold Builtin.SmallTypes.ownedTupleIsFree
 refine wpAny_bind (wpAny_field hz rfl (x := .none) rfl (wpAny_pure ?_)); simp only [if_true]
 refine wpAny_bind (wpAny_rule (wpAny_bind (wpAny_field hz rfl (x := .ref W) rfl ?_)))
 refine wpAny_bind (wpAny_setField_rec hz (by simp) λ g1 z1 t1 => ?_)
 replace z1 : IsZip g1 Z U W .ellipsis := z1
 refine wpAny_bind ?_; simp only [List.zipIdx_cons, List.zipIdx_nil, List.forIn_cons, List.forIn_nil]
 refine wpAny_bind (wpAny_bind (wpAny_onRaise ?_)); show wpAny _ _ (Builtin.SmallTypes.nextOf (.ref a) >>= _) _ _ _
 cases hx : vs1[k]? with
 | none =>
  refine wpAny_bind (R1.stop k hh (R1.ext h1 t1.extBut D.i1z D.l1z) hx λ g2 e t2 he => ?_)
  obtain ⟨oe, q1, q2⟩ := he
  have z2 : IsZip g2 Z U W .ellipsis := t2 _ _ D.i1z.symm z1
  have ez : e ≠ Z := λ z => by subst z; rw [z2] at q1; cases q1; simp at q2
  exact wpAny_setField_rec z2 (by simp) λ g3 _ t3 => hE g3 e (λ f o n1 _ n3 _ z => t3.extBut _ _ n1 (t2 _ _ n3 (t1.extBut _ _ n1 z))) ⟨oe, t3.extBut _ _ ez q1, q2⟩
 | some x =>
  have hy : vs2[k]? = none := by rcases hend with h | h; rw [hx] at h; cases h; exact h
  refine wpAny_bind (R1.step k x (R1.ext h1 t1.extBut D.i1z D.l1z) hx λ g2 r2 t2 => wpAny_pure ?_)
  have w2 : IsPair g2 W c d := t2.extBut _ _ D.TOi1 (t1.extBut _ _ D.TOz hW)
  refine wpAny_bind (wpAny_seqItems w2 rfl (wpAny_bind (wpAny_updateSeq_pair w2 λ g3 w3 t3 => ?_)))
  refine wpAny_bind (wpAny_letGo (wpAny_pure ?_))
  refine wpAny_bind (wpAny_bind (wpAny_onRaise ?_)); show wpAny _ _ (Builtin.SmallTypes.nextOf (.ref b) >>= _) _ _ _
  refine wpAny_bind (R2.stop k hh (R2.ext (R2.ext (R2.ext h2 t1.extBut D.i2z D.l2z) t2.extBut D.i12.symm D.l2i1) t3.extBut D.TOi2.symm D.l2TO) hy λ g4 e t4 he => ?_)
  obtain ⟨oe, q1, q2⟩ := he
  have z4 : IsZip g4 Z U W .ellipsis := t4 _ _ D.i2z.symm (t3.extBut _ _ D.TOz.symm (t2.extBut _ _ D.i1z.symm z1))
  have ez : e ≠ Z := λ z => by subst z; rw [z4] at q1; cases q1; simp at q2
  exact wpAny_setField_rec z4 (by simp) λ g5 _ t5 => hE g5 e (λ f o n1 n2 n3 n4 z => t5.extBut _ _ n1 (t4 _ _ n4 (t3.extBut _ _ n2 (t2.extBut _ _ n3 (t1.extBut _ _ n1 z))))) ⟨oe, t5.extBut _ _ ez q1, q2⟩
theorem q8B {Q : Option Value -> Shared -> Prop} (D : ZipApart Z U W a b l1 l2) (R1 : Src P w a l1 vs1 S1) (R2 : Src P w b l2 vs2 S2) (hz : IsZip s.heap Z U W .none) (hU : IsPair s.heap U (.ref a) (.ref b)) (hW : IsPair s.heap W c d) (h1 : S1 k s.heap) (h2 : S2 k s.heap) (hx : vs1[k]? = some x) (hy : vs2[k]? = some y)
  (hQ : ∀ h', IsZip h' Z U W (rawInt s.heap.objs.size) -> IsPair h' W x y -> S1 (k + 1) h' -> S2 (k + 1) h' -> IsPair h' s.heap.objs.size x y -> h'.objs.size = s.heap.objs.size + 1 -> (∀ e o, e ≠ Z -> e ≠ W -> e ≠ a -> e ≠ b -> s.heap.get? e = some o -> h'.get? e = some o) -> Q (some (.ref s.heap.objs.size)) { s with heap := h' }) :
  wpAny (model P w) A (pyNext (.ref Z)) Q E s := by
 have T : s.TypeIs (.ref Z) "zip" := ⟨_, hz, rfl⟩
 unfold pyNext
 exact wpAny_bind (wpAny_attempt (wpAny_callSpecial?_slot (name := Str.ofString "__next__") T F.slot_zip_next (wpAny_call_entry F.slot_zip_next T F.entry_zip_next (q9R D R1 R2 hz hU hW h1 h2 hx hy λ h' b1 b2 b3 b4 b5 b6 b7 => wpAny_pure (hQ h' b1 b2 b3 b4 b5 b6 b7)) (F.args_zip_next_1 _))))
theorem q8W {Q : Option Value -> Shared -> Prop} (hh : A.handled = none) (D : ZipApart Z U W a b l1 l2) (R1 : Src P w a l1 vs1 S1) (R2 : Src P w b l2 vs2 S2) (hz : IsZip s.heap Z U W .none) (hU : IsPair s.heap U (.ref a) (.ref b)) (hW : IsPair s.heap W c d) (h1 : S1 k s.heap) (h2 : S2 k s.heap) (hend : vs1[k]? = none \/ vs2[k]? = none)
  (hQ : ∀ h', (∀ f o, f ≠ Z -> f ≠ W -> f ≠ a -> f ≠ b -> s.heap.get? f = some o -> h'.get? f = some o) -> Q none { s with heap := h' }) : wpAny (model P w) A (pyNext (.ref Z)) Q E s := by
 have T : s.TypeIs (.ref Z) "zip" := ⟨_, hz, rfl⟩
 unfold pyNext
 refine wpAny_bind (wpAny_attempt (wpAny_callSpecial?_slot (name := Str.ofString "__next__") T F.slot_zip_next (wpAny_call_entry F.slot_zip_next T F.entry_zip_next (q9G hh D R1 R2 hz hU hW h1 h2 hend λ h' e hk he => ?_) (F.args_zip_next_1 _))))
 obtain ⟨o, q1, q2⟩ := he
 exact wpAny_bind (wpAny_isInstance (T := "StopIteration") (b := true) ⟨o, q1, q2⟩ isSubtype_stop (wpAny_pure (hQ _ hk)))
end
noncomputable def SqK (t : Bool) (h : Heap) (l : Addr) (vs : Array Value) : Prop := match t with | false => h.IsList l vs | true => h.IsTuple l vs
noncomputable def sK (t : Bool) (ia la : Addr) (vs : Array Value) : Nat -> Heap -> Prop := match t with | false => sL ia la vs | true => sT ia la vs
theorem q7j {P : Program} {w : World} {ia la : Addr} {vs : Array Value} (t : Bool) (ne : la ≠ ia) : Src P w ia la vs (sK t ia la vs) := by
 cases t
 ·exact z0a ne
 ·exact z1I ne
noncomputable def itN : Bool -> String | false => "list_iterator" | true => "tuple_iterator"
noncomputable abbrev itO (t : Bool) (l : Addr) : Obj := { cls := .type (itN t), data := .fields #[.ref l, .int 0 0] }
noncomputable abbrev zH1 (h : Heap) (t1 : Bool) (l1 : Addr) : Heap := h.push (itO t1 l1)
noncomputable abbrev zH2 (h : Heap) (t1 t2 : Bool) (l1 l2 : Addr) : Heap := (zH1 h t1 l1).push (itO t2 l2)
noncomputable abbrev zH3 (h : Heap) (t1 t2 : Bool) (l1 l2 : Addr) : Heap := (zH2 h t1 t2 l1 l2).push { cls := .type "tuple", data := .seq #[.ref h.objs.size, .ref (zH1 h t1 l1).objs.size] }
noncomputable abbrev zH4 (h : Heap) (t1 t2 : Bool) (l1 l2 : Addr) : Heap := (zH3 h t1 t2 l1 l2).push { cls := .type "tuple", data := .seq #[.none, .none] }
noncomputable abbrev zH5 (h : Heap) (t1 t2 : Bool) (l1 l2 : Addr) : Heap := (zH4 h t1 t2 l1 l2).push { cls := .type "zip", data := .fields #[.none, .bool false, .bool false, .ref (zH2 h t1 t2 l1 l2).objs.size, .ref (zH3 h t1 t2 l1 l2).objs.size] }
theorem q9o (t1 t2 : Bool) (l1 l2 : Addr) (vs1 vs2 : Array Value) : Meets (Builtin.«zip.__new__» ⟨[.type "zip", .ref l1, .ref l2], []⟩) (λ _ R s => SqK t1 s.heap l1 vs1 /\ SqK t2 s.heap l2 vs2 /\ R (.ok (.ret (.ref (zH4 s.heap t1 t2 l1 l2).objs.size))) { s with heap := zH5 s.heap t1 t2 l1 l2 }) :=
 .of_wp λ P w A R s h => by
  obtain ⟨h0, g0, d0, k0, o0⟩ := s
  obtain ⟨q1, q2, h⟩ := h
  have hsub := sub_zip
  cases t1 <;> cases t2
  ·have e1 : Heap.IsList (Shared.heap ⟨h0, g0, d0, k0, o0⟩) l1 vs1 := q1
   have e2 : Heap.IsList (Shared.heap ⟨h0.push { cls := .type "list_iterator", data := .fields #[.ref l1, .int 0 0] }, g0, d0, k0, o0⟩) l2 vs2 := Heap.IsList.push q2 _
   wp_walk using wpAny_pyIter_list e1, wpAny_pyIter_list e2
   exact ⟨_, rfl, h⟩
  ·have e1 : Heap.IsList (Shared.heap ⟨h0, g0, d0, k0, o0⟩) l1 vs1 := q1
   have e2 : Heap.IsTuple (Shared.heap ⟨h0.push { cls := .type "list_iterator", data := .fields #[.ref l1, .int 0 0] }, g0, d0, k0, o0⟩) l2 vs2 := Heap.IsTuple.push q2 _
   wp_walk using wpAny_pyIter_list e1, wpAny_pyIter_tuple e2
   exact ⟨_, rfl, h⟩
  ·have e1 : Heap.IsTuple (Shared.heap ⟨h0, g0, d0, k0, o0⟩) l1 vs1 := q1
   have e2 : Heap.IsList (Shared.heap ⟨h0.push { cls := .type "tuple_iterator", data := .fields #[.ref l1, .int 0 0] }, g0, d0, k0, o0⟩) l2 vs2 := Heap.IsList.push q2 _
   wp_walk using wpAny_pyIter_tuple e1, wpAny_pyIter_list e2
   exact ⟨_, rfl, h⟩
  ·have e1 : Heap.IsTuple (Shared.heap ⟨h0, g0, d0, k0, o0⟩) l1 vs1 := q1
   have e2 : Heap.IsTuple (Shared.heap ⟨h0.push { cls := .type "tuple_iterator", data := .fields #[.ref l1, .int 0 0] }, g0, d0, k0, o0⟩) l2 vs2 := Heap.IsTuple.push q2 _
   wp_walk using wpAny_pyIter_tuple e1, wpAny_pyIter_tuple e2
   exact ⟨_, rfl, h⟩
theorem q7z {t : Bool} {ia la : Addr} {vs : Array Value} {h h' : Heap} (e : h'.get? ia = some (itO t la)) (q : SqK t h la vs) (k : ∀ c o, h.get? c = some o -> h'.get? c = some o) : sK t ia la vs 0 h' := by
 cases t
 ·exact ⟨⟨_, e, rfl, rfl⟩, Heap.IsList.at q λ o z => k _ o z⟩
 ·exact ⟨⟨_, e, rfl, rfl⟩, by obtain ⟨o, z, r⟩ := q; exact ⟨o, k _ o z, r⟩⟩
theorem q8e {P : Program} {w : World} {A : Around} {E : Value -> Shared -> Prop} {s : Shared} {l1 l2 : Addr} {vs1 vs2 : Array Value} {Q : Value -> Shared -> Prop} (t1 t2 : Bool) (q1 : SqK t1 s.heap l1 vs1) (q2 : SqK t2 s.heap l2 vs2)
  (h : ∀ h', IsZip h' (s.heap.objs.size + 4) (s.heap.objs.size + 2) (s.heap.objs.size + 3) .none -> IsPair h' (s.heap.objs.size + 2) (.ref s.heap.objs.size) (.ref (s.heap.objs.size + 1)) -> IsPair h' (s.heap.objs.size + 3) .none .none -> sK t1 s.heap.objs.size l1 vs1 0 h' -> sK t2 (s.heap.objs.size + 1) l2 vs2 0 h' -> h'.objs.size = s.heap.objs.size + 5 ->
   (∀ c o, s.heap.get? c = some o -> h'.get? c = some o) -> Q (.ref (s.heap.objs.size + 4)) { s with heap := h' }) : wpAny (model P w) A (call (.type "zip") [.ref l1, .ref l2]) Q E s := by
 refine callType_new F.called_zip (by decide) (F.typeCall_zip_2 _ _) (F.newCall_zip_2 _ _) (λ obj => F.args_object_init_3 obj _ _) F.entry_zip_new (q9o t1 t2 l1 l2 vs1 vs2) ⟨q1, q2, ?_⟩
 have n1 : (zH1 s.heap t1 l1).objs.size = s.heap.objs.size + 1 := Heap.size_push ..
 have n2 : (zH2 s.heap t1 t2 l1 l2).objs.size = s.heap.objs.size + 2 := by rw [Heap.size_push, n1]
 have n3 : (zH3 s.heap t1 t2 l1 l2).objs.size = s.heap.objs.size + 3 := by rw [Heap.size_push, n2]
 have n4 : (zH4 s.heap t1 t2 l1 l2).objs.size = s.heap.objs.size + 4 := by rw [Heap.size_push, n3]
 have n5 : (zH5 s.heap t1 t2 l1 l2).objs.size = s.heap.objs.size + 5 := by rw [Heap.size_push, n4]
 have e5 : (zH5 s.heap t1 t2 l1 l2).get? (zH4 s.heap t1 t2 l1 l2).objs.size = some _ := Heap.get?_push_size _ rfl
 have e4 : (zH5 s.heap t1 t2 l1 l2).get? (zH3 s.heap t1 t2 l1 l2).objs.size = some _ := Heap.get?_push_of_some _ (Heap.get?_push_size _ rfl)
 have e3 : (zH5 s.heap t1 t2 l1 l2).get? (zH2 s.heap t1 t2 l1 l2).objs.size = some _ := Heap.get?_push_of_some _ (Heap.get?_push_of_some _ (Heap.get?_push_size _ rfl))
 have e2 : (zH5 s.heap t1 t2 l1 l2).get? (zH1 s.heap t1 l1).objs.size = some _ := Heap.get?_push_of_some _ (Heap.get?_push_of_some _ (Heap.get?_push_of_some _ (Heap.get?_push_size _ rfl)))
 have e1 : (zH5 s.heap t1 t2 l1 l2).get? s.heap.objs.size = some _ := Heap.get?_push_of_some _ (Heap.get?_push_of_some _ (Heap.get?_push_of_some _ (Heap.get?_push_of_some _ (Heap.get?_push_size _ rfl))))
 have kp : ∀ c o, s.heap.get? c = some o -> (zH5 s.heap t1 t2 l1 l2).get? c = some o := λ c o z => Heap.get?_push_of_some _ (Heap.get?_push_of_some _ (Heap.get?_push_of_some _ (Heap.get?_push_of_some _ (Heap.get?_push_of_some _ z))))
 show _ /\ _
 rw [n2, n3, n4] at e5
 rw [n1, n2] at e3
 rw [n3] at e4
 rw [n1] at e2
 rw [n4]
 exact ⟨⟨_, e5, rfl⟩, h _ e5 e3 e4 (q7z e1 q1 kp) (q7z e2 q2 kp) n5 kp⟩
end L2
end
section
namespace PySem
section
variable {prog : Program} {w : World} {A : Around} {E : Value -> Shared -> Prop} {s : Shared}
theorem q2m (a b : Int) : Builtin.Range.rangeSize a b (-1) = if b < a then a - b else 0 := by
 unfold Builtin.Range.rangeSize
 simp
theorem q6H {a b : Int} (ha : -(2 ^ 62) <= a) (ha' : a < 2 ^ 62) (hb : -(2 ^ 62) <= b) (hb' : b < 2 ^ 62) : Builtin.Range.small a b (-1) = true := by
 unfold Builtin.Range.small
 rw [q2m]
 simp only [Builtin.Range.rangeFitsLong, Bool.and_eq_true, Bool.or_eq_true, decide_eq_true_eq, beq_iff_eq, show ¬ ((-1 : Int) > 0) by decide, if_false]
 split <;> omega
end
end PySem
namespace L2
open PySem PySem.Spec PyProof.Rows
variable {X : Cx} {tg : Expr}
noncomputable def Itd (hi : Int) (n : Nat) : It := ⟨λ i _ => i < n, λ i H x H' => H' = H /\ x = .int (hi - i), λ i _ => n <= i⟩
theorem q7S {P : Program} {w : World} {K : PySem.W.Frag} {tg : Expr} (it : Addr) (hi : Int) (n : Nat) : Turn P w K tg (Itd hi n) [it] it (λ i h => IsRangeIter h it (hi + (i : Nat) * (-1)) ((n : Int) - (i : Nat)) (-1)) where
 mem := by simp
 obj := λ i h st b hb => by
  have e : b = it := by simpa using hb
  subst e
  exact ⟨_, st, λ v z => by
   have z' : Data.fields _ = Data.cell v := z
   cases z'⟩
 keep := λ i h h' st k => k it (by simp) _ st
 item := by
  intro X hP hw hK hc i pins s σ H E I hf st hg
  subst hP hw hK
  obtain ⟨f0, f1, f2, f3, f4, f5⟩ := hf it (by simp)
  have W := Walks.range (prog := X.prog) (w := X.w) (I.ok.hd hc) it hi (-1) n
  refine W.item i s _ _ hg st λ v h' tk hv st' kk => ?_
  obtain ⟨t, rfl⟩ := hv
  have I1 : Inv X pins σ H { s with heap := h', toks := tk } := I.turned (λ b o hb e => kk b o (by simpa using hb) e) f0 f1 f3 f4 f5
  refine ⟨_, rfl, q9H (s := { s with heap := h', toks := tk }) (n := "range_iterator") st' rfl rfl (by decide) ⟨.int (hi - i), H, I1, ⟨t, ?_⟩, ⟨rfl, rfl⟩, st', λ b hb => (hf b hb).1⟩⟩
  rw [show hi + (i : Int) * (-1) = hi - i by omega]
 done := by
  intro X hP hw hK hc i pins s σ H E I hf st hg
  subst hP hw hK
  obtain ⟨f0, f1, f2, f3, f4, f5⟩ := hf it (by simp)
  exact wpAny_pyNext_range_end (I.ok.hd hc) st (by have : n <= i := hg; omega) λ h' eb => ⟨rfl, I.turned (t' := s.toks) (λ b o hb e => eb b o hb e) f0 f1 f3 f4 f5⟩
 self := λ _ _ _ _ _ st h => wpAny_pyIter_rangeiter st h
theorem z1q {pins : List (Addr × Obj)} {σ : St} {H : Hp} {s : Shared} {R : It -> Hp -> Prop} {E : Value -> Shared -> Prop} {lo hi : Int} {t u v : Tok} {tk : Nat} (I : Inv X pins σ H s) (h1 : -(2 ^ 62) <= lo) (h2 : lo < 2 ^ 62) (h3 : -(2 ^ 62) <= hi) (h4 : hi < 2 ^ 62)
  (q : R (Itd lo (lo - hi).toNat) H) : wpAny (model X.prog X.w) X.A (pyIter (.ref s.heap.objs.size)) (PIE X pins σ tg R) E { s with heap := s.heap.push { cls := .type "range", data := .fields #[.int lo t, .int hi u, .int (-1) v] }, toks := tk } := by
 refine wpAny_pyIter_range (IsRange.new ..) (q6H h1 h2 h3 h4) ?_
 have I1 : Inv X pins σ H { s with heap := s.heap.push { cls := .type "range", data := .fields #[.int lo t, .int hi u, .int (-1) v] }, toks := tk } := I.kept λ b o e => Heap.get?_push_of_some _ e
 refine ⟨(s.heap.push { cls := .type "range", data := .fields #[.int lo t, .int hi u, .int (-1) v] }).objs.size, [(s.heap.push { cls := .type "range", data := .fields #[.int lo t, .int hi u, .int (-1) v] }).objs.size], _, _, H, rfl,
  I1.kept (t' := tk) λ b o e => Heap.get?_push_of_some _ e, q7S _ lo (lo - hi).toNat, ?_, λ b hb => ?_, q⟩
 ·have e1 : lo + ((0 : Nat) : Int) * (-1) = lo := by simp
  have e2 : (((lo - hi).toNat : Nat) : Int) - ((0 : Nat) : Int) = Builtin.Range.rangeSize lo hi (-1) := by rw [q2m]; split <;> omega
  show IsRangeIter _ _ (lo + ((0 : Nat) : Int) * (-1)) ((((lo - hi).toNat : Nat) : Int) - ((0 : Nat) : Int)) (-1)
  rw [e1, e2]
  exact Heap.get?_push_size _ rfl
 ·have e : b = (s.heap.push { cls := .type "range", data := .fields #[.int lo t, .int hi u, .int (-1) v] }).objs.size := by simpa using hb
  subst e
  exact I1.fpOk (Nat.le_refl _) (I1.hok.fresh (Nat.le_refl _))
noncomputable def z5F (ta : TA) : TI := λ σ H R => ta σ H λ vs H1 => ∃ i j : Int, vs = [.int i, .int j, .int (-1)] /\ (-(2 ^ 62) <= i /\ i < 2 ^ 62 /\ -(2 ^ 62) <= j /\ j < 2 ^ 62) /\ R (Itd i (i - j).toNat) H1
theorem noPl (a : Int) : Builtin.divisionGoesByPylong a (-1) = false := PyProof.noPylong_small (by omega)
theorem q7E {a b c : Expr} {ta : TA} {p pos : Pos} (hg : Gl X "range") (hm : X.mg "range" = none) (ha : PA X [a, b, c] ta) (hs : starEach [a, b, c] X.env = [(false, eval a X.env), (false, eval b X.env), (false, eval c X.env)]) (hs2 : starEach [b, c] X.env = [(false, eval b X.env), (false, eval c X.env)]) :
  PI X tg (.Call (.Name "range" p) [a, b, c] [] pos) (z5F ta) := by
 intro pins s σ H R I h
 refine Call_ (q2q I hg hm boot_range (PyProof.Rows.callWith_type1 (thn (ha pos pins s σ H _ I h) λ us s1 ⟨vs, H1, I1, r1, q1⟩ => ?_) (by rw [hs, hs2]) (by rw [hs2]; rfl)))
 obtain ⟨i, j, e, ⟨q1, q2, q3, q4⟩, q⟩ := q1
 subst e
 cases r1 with
 | cons r rr =>
  cases rr with
  | cons r' rr =>
   cases rr with
   | cons r'' rr =>
    cases rr
    obtain ⟨t, rfl⟩ := r
    obtain ⟨t', rfl⟩ := r'
    obtain ⟨t'', rfl⟩ := r''
    exact call_range_3 (by decide) (z1q I1 q1 q2 q3 q4 q) (Or.inl (noPl _))
end L2
end
section
namespace L2
open PySem
inductive DKey where
 | i (n : Int) | s (x : Str) | t (l : List (Sum Int Str))
 deriving DecidableEq
inductive DV where
 | non | bl (b : Bool) | int (i : Int) | str (x : Str) | tup (ds : List DV) | lst (ds : List DV) | dct (ks : List DKey) (vs : List DV)
 | exc (c : Str) | fn (x : Str)
 | scr (ns : List Int)
inductive Cl where
 | weak | top | strong | fresh | ft
 deriving DecidableEq
inductive Re where
 | ok (d : DV) (c : Cl) | ex (c : Str)
inductive Rs where
 | ok (l : List (DV × Cl)) | ex (c : Str)
inductive Rt where
 | ok (b : Bool) | ex (c : Str)
inductive Sv where
 | no | val (d : DV) | own (d : DV) | ot (d : DV)
 | o2 (d : DV)
 | od (d : DV)
inductive Ou where
 | v (d : DV) (fr : Bool) | x (c : Str) | t (d : DV)
inductive Out where
 | nx (δ : List Sv) | rt (d : DV) (fr : Bool) | ex (c : Str) (δ : List Sv) | rtt (d : DV)
inductive Bi where
 | len | abs | min | max | sum | any | all | sorted | sset | lset | int | list | tuple | str | lrng | lsti
 deriving DecidableEq
inductive Mt where
 | bitLength | index | get
 deriving DecidableEq
inductive Tg where
 | one (i : Nat) | many (is : List Nat)
inductive ME where
 | var (i : Nat) | int (i : Int) | bl (b : Bool) | str (x : Str) | non | glb (x : Str)
 | bin (op : Operator) (a b : ME) | neg (a : ME)  | not (a : ME)
 | cmp (op : CmpOp) (a b : ME)
 | and (es : List ME) | or (es : List ME)
 | lst (es : List ME) | tup (es : List ME) | dct (i : Int) (e : ME) | dc0
 | ix (a b : ME) | sl (a lo hi : ME) | slf (a lo : ME) | slt (a hi : ME)
 | call (f : Nat) (es : List ME)   | bi (f : Bi) (es : List ME) | isi (a : ME) (ts : List Str)
 | comp (elt : ME) (tg : Tg) (it : ME) (fr : List (Option Nat)) | compi (elt : ME) (tg : Tg) (it c : ME) (fr : List (Option Nat))
 | dgt (i : Nat) (k e : ME) | dix (a k : ME)
 | rng (es : List ME) | enu (a : ME) | zp (a b : ME) | itm (a : ME)
inductive MS where
  | set (i : Nat) (own : Bool) (e : ME)
  | app (i : Nat) (e : ME)  | seti (i : Nat) (k e : ME)
   | ret (e : ME)  | iff (c : ME) (a b : List MS) | fo (tg : Tg) (it : ME) (body : List MS) | wh (c : ME) (body : List MS)
  | sed (i : Nat) | dput (i : Nat) (k e : ME) | retd (i : Nat)
  | frz (i : Nat)
structure FD where
 n : Nat
 np : Nat
 dfl : List DV := []
 kn : Option Str := none
 body : List MS
noncomputable def Re.thn (r : Option Re) (k : DV -> Cl -> Option Re) : Option Re := match r with
 | none => none
 | some (.ex c) => some (.ex c)
 | some (.ok d c) => k d c
noncomputable def Rs.thn (r : Option Rs) (k : List (DV × Cl) -> Option Re) : Option Re := match r with
 | none => none
 | some (.ex c) => some (.ex c)
 | some (.ok l) => k l
noncomputable def Re.thnT (r : Option Re) (k : DV -> Cl -> Option Rt) : Option Rt := match r with
 | none => none
 | some (.ex c) => some (.ex c)
 | some (.ok d c) => k d c
mutual
noncomputable def DV.immut : DV -> Bool
 | .non => true | .bl _ => true | .int _ => true | .str _ => true | .exc _ => true | .fn _ => true | .scr _ => true
 | .tup ds => DV.immuts ds
 | .lst _ => false | .dct _ _ => false
noncomputable def DV.immuts : List DV -> Bool
 | [] => true
 | d :: r => d.immut && DV.immuts r
end
noncomputable def stro (d : DV) : Cl -> Bool
 | .strong => true | .fresh => true | .ft => true | _ => d.immut
noncomputable def stros (l : List (DV × Cl)) : Bool := l.all λ p => stro p.1 p.2
noncomputable def Cl.item : Cl -> Cl
 | .weak => .weak | _ => .strong
noncomputable def Cl.anew : Cl -> Cl -> Cl
 | .weak, _ => .weak | _, .weak => .weak | _, _ => .fresh
noncomputable def mostLen : Nat := 1000000
mutual
noncomputable def deq : DV -> DV -> Bool
 | .non, .non => true
 | .bl a, .bl b => a == b
 | .bl a, .int j => (if a then 1 else 0) == j
 | .int i, .bl b => i == (if b then 1 else 0)
 | .int i, .int j => i == j
 | .str a, .str b => decide (a = b)
 | .tup a, .tup b => deqs a b
 | .lst a, .lst b => deqs a b
 | _, _ => false
noncomputable def deqs : List DV -> List DV -> Bool
 | [], [] => true
 | a :: r, b :: s => deq a b && deqs r s
 | _, _ => false
end
mutual
noncomputable def DV.plain : Nat -> DV -> Bool
 | _, .non => true | _, .bl _ => true | _, .int _ => true
 | _, .str x => x.cps.all (· < 0x110000)
 | 0, _ => false
 | n + 1, .tup ds => DV.plains n ds | n + 1, .lst ds => DV.plains n ds
 | _, _ => false
noncomputable def DV.plains : Nat -> List DV -> Bool
 | _, [] => true
 | n, d :: r => d.plain n && DV.plains n r
end
noncomputable def q1Y : DV -> Option Bool
 | .non => some false
 | .bl b => some b
 | .int i => some (i != 0)
 | .str x => some (x.cps.size != 0)
 | .tup ds => some (!ds.isEmpty)
 | .lst ds => some (!ds.isEmpty)
 | _ => none
noncomputable def q2A (n : Nat) (i : Int) : Option Nat := if 0 <= i then (if i < n then some i.toNat else none) else if -(n : Int) <= i then some (i + n).toNat else none
noncomputable def atD (ds : List DV) (i : Int) : Option DV := (q2A ds.length i).bind λ j => ds[j]?
noncomputable def q3h (k : DKey) : List DKey -> List DV -> Option DV
 | k' :: ks, v :: vs => if k' = k then some v else q3h k ks vs
 | _, _ => none
noncomputable def putD (k : DKey) (d : DV) (ks : List DKey) (vs : List DV) : List DKey × List DV :=
 if k ∈ ks then (ks, (ks.zip vs).map λ p => if p.1 = k then d else p.2) else (ks ++ [k], vs ++ [d])
noncomputable def ixD (a b : DV) : Option DV := match a, b with
 | .scr ns, .int i => ((q2A ns.length i).bind λ j => ns[j]?).map DV.int
 | .lst ds, .int i => atD ds i
 | .tup ds, .int i => atD ds i
 | .str z, .int i => (q2A z.cps.size i).bind λ j => (z.cps[j]?).map λ c => .str ⟨#[c]⟩
 | _, _ => none
noncomputable def slIx (n d : Nat) : Option Int -> Nat
 | none => d
 | some v => if v < 0 then (v + (n : Int)).toNat else min v.toNat n
noncomputable def cutD (ds : List DV) (lo hi : Option Int) : List DV := (ds.drop (slIx ds.length 0 lo)).take (slIx ds.length ds.length hi - slIx ds.length 0 lo)
noncomputable def slD (a : DV) (lo hi : Option Int) : Option DV := match a with
 | .scr ns => some (.lst (cutD (ns.map DV.int) lo hi))
 | .lst ds => some (.lst (cutD ds lo hi))
 | .tup ds => if slIx ds.length 0 lo = 0 /\ slIx ds.length ds.length hi = ds.length then none else some (.tup (cutD ds lo hi))
 | _ => none
noncomputable def slCl (a : DV) (c : Cl) : Cl := match a with
 | .scr _ => .fresh
 | .lst _ => Cl.anew c c
 | _ => c.item
noncomputable def q2i (i j : Int) : Bool := (decide (-(2 ^ 64) < i) && decide (i < 2 ^ 64)) || (decide (-(2 ^ 64) < j) && decide (j < 2 ^ 64)) || (decide (i.natAbs < 2 ^ 2000) && decide (j.natAbs < 2 ^ 2000))
noncomputable def binD (op : Operator) (a b : DV) (ca cb : Cl) : Option Re := match op, a, b with
 | .Add, .int i, .int j => some (.ok (.int (i + j)) .strong)
 | .Sub, .int i, .int j => some (.ok (.int (i - j)) .strong)
 | .Mult, .int i, .int j => if q2i i j then some (.ok (.int (i * j)) .strong) else none
 | .Mod, .int i, .int j => if 0 < j then some (.ok (.int (i % j)) .strong) else none
 | .FloorDiv, .int i, .int j => if 0 < j /\ j < 2 ^ 200 then some (.ok (.int (i / j)) .strong) else none
 | .Pow, .int i, .int j => if 2 <= i /\ i < 64 /\ 1 <= j /\ j < 64 then some (.ok (.int (i ^ j.toNat)) .strong) else none
 | .LShift, .int i, .int j => if 0 <= j /\ j <= 1000000 /\ i.natAbs < 2 ^ 64 then some (.ok (.int (i * 2 ^ j.toNat)) .strong) else none
 | .RShift, .int i, .int j => if 0 <= j then some (.ok (.int (i / 2 ^ j.toNat)) .strong) else none
 | .BitAnd, .int i, .int j => some (.ok (.int (Builtin.bitAnd i j)) .strong)
 | .BitOr, .int i, .int j => some (.ok (.int (Builtin.bitOr i j)) .strong)
 | .Add, .lst x, .lst y => if x.length + y.length <= mostLen then some (.ok (.lst (x ++ y)) (Cl.anew ca cb)) else none
 | .Mult, .lst x, .int k => if x.length * k.toNat <= mostLen /\ -(2 ^ 63) <= k /\ k < 2 ^ 63 then some (.ok (.lst (List.replicate k.toNat x).flatten) (Cl.anew ca ca)) else none
 | _, _, _ => none
noncomputable def cmpD (op : CmpOp) (a b : DV) : Option Bool := match op, a, b with
 | .Lt, .int i, .int j => some (decide (i < j))
 | .Gt, .int i, .int j => some (decide (j < i))
 | .Eq, a, b => if a.plain 60 && b.plain 60 then some (deq a b) else none
 | .NotEq, a, b => if a.plain 60 && b.plain 60 then some (!deq a b) else none
 | _, _, _ => none
noncomputable def ints? : List DV -> Option (List Int)
 | [] => some []
 | .int i :: r => (ints? r).map (i :: ·)
 | _ => none
noncomputable def minI : Int -> List Int -> Int
 | m, [] => m
 | m, x :: r => minI (if x < m then x else m) r
noncomputable def dk (σ : List Int) (k : Int) : List Int := if k ∈ σ then σ else σ ++ [k]
noncomputable def lenD : List (DV × Cl) -> Option Re
 | [(.lst ds, _)] => some (.ok (.int ds.length) .strong)
 | [(.tup ds, _)] => some (.ok (.int ds.length) .strong)
 | [(.scr ns, _)] => some (.ok (.int ns.length) .strong)
 | [(.str z, _)] => some (.ok (.int z.length) .strong)
 | _ => none
noncomputable def trips? : List DV -> Option (List (Int × Int × Int))
 | [] => some []
 | .tup [.int a, .int b, .int c] :: r => (trips? r).map ((a, b, c) :: ·)
 | _ => none
noncomputable def ltT (p q : Int × Int × Int) : Bool := decide (p.1 < q.1) || (p.1 == q.1 && (decide (p.2.1 < q.2.1) || (p.2.1 == q.2.1 && decide (p.2.2 < q.2.2))))
noncomputable def q4K : Int × Int × Int -> List (Int × Int × Int) -> Int × Int × Int
 | m, [] => m
 | m, x :: r => q4K (if ltT x m then x else m) r
noncomputable def trD (p : Int × Int × Int) : DV := .tup [.int p.1, .int p.2.1, .int p.2.2]
noncomputable def minD : List (DV × Cl) -> Option Re
 | [(.int i, _), (.int j, _)] => some (.ok (.int (if j < i then j else i)) .strong)
 | [(.lst ds, c)] => match ints? ds with
  | some (n :: r) => some (.ok (.int (minI n r)) .strong)
  | _ => match trips? ds with
   | some (n :: r) => some (.ok (trD (q4K n r)) c.item)
   | _ => none
 | [(.tup ds, _)] => match ints? ds with
  | some (n :: r) => some (.ok (.int (minI n r)) .strong)
  | _ => none
 | _ => none
noncomputable def q6N : List (DV × Cl) -> Option Re
 | [(.scr ns, _)] => some (.ok (.lst (ns.map DV.int)) .fresh)
 | [(.lst ds, c)] => some (.ok (.lst ds) (Cl.anew c c))
 | [(.tup ds, c)] => some (.ok (.lst ds) (Cl.anew c c))
 | _ => none
noncomputable def q9S : List (DV × Cl) -> Option Re
 | [(.int j, _)] => if decide (-(2 ^ 62) <= j) && decide (j <= mostLen) then some (.ok (.lst ((List.range j.toNat).map λ (i : Nat) => DV.int (0 + i))) .fresh) else none
 | _ => none
noncomputable def biD (f : Bi) (l : List (DV × Cl)) : Option Re := match f with
 | .len => lenD l
 | .min => minD l
 | .list => q6N l
 | .lrng => q9S l
 | _ => none
noncomputable def biOk : Bi -> Bool
 | .len => true | .min => true | .list => true | .lrng => true
 | _ => false
structure Gs where
 dcs : List (Str × List (Str × Str)) := []
 con : List (Str × DV)
 cls : List (Str × List Str)
 dfl : List (Nat × List DV) := []
 kws : List (Nat × Str) := []
 hun : Bool := false
noncomputable def q2z (G : Gs) (c c' : Str) : Bool := c == c' || ((G.cls.lookup c).getD []).contains c'
noncomputable def tyOf : DV -> List Str
 | .non => ["NoneType"]
 | .bl _ => ["bool", "int"]
 | .int _ => ["int"]
 | .str _ => ["str"]
 | .tup _ => ["tuple"]
 | .lst _ => ["list"]
 | .dct _ _ => ["dict"]
 | _ => []
noncomputable def q0Z : List Str := ["int", "bool", "str", "list", "tuple", "dict"]
noncomputable def isiD (G : Gs) (d : DV) (ts : List Str) : Option Bool := match d with
 | .scr _ => none
 | .exc _ => none
 | .fn _ => none
 | d => match ts with
  | [t] => if q0Z.contains t then some ((tyOf d).contains t) else none
  | [t, u] => if q0Z.contains t && q0Z.contains u then some ((tyOf d).contains t || (tyOf d).contains u) else none
  | _ => none
noncomputable def upTo (lo : Int) (n : Nat) : List DV := (List.range n).map λ (i : Nat) => DV.int (lo + i)
noncomputable def q3V (lo : Int) (n : Nat) : List DV := (List.range n).map λ (i : Nat) => DV.int (lo - i)
noncomputable def q1a (i : Int) : Bool := decide (-(2 ^ 62) <= i) && decide (i < 2 ^ 62)
noncomputable def rngD (l : List (DV × Cl)) : Option (List DV) := match l with
 | [(.int j, _)] => if q1a j && decide (j <= mostLen) then some (upTo 0 j.toNat) else none
 | [(.int i, _), (.int j, _)] => if q1a i && q1a j && decide (j - i <= mostLen) then some (upTo i (j - i).toNat) else none
 | [(.int i, _), (.int j, _), (.int k, _)] => if q1a i && q1a j && decide (i - j <= mostLen) && decide (k = -1) then some (q3V i (i - j).toNat) else none
 | _ => none
noncomputable def enuD : Nat -> List DV -> List DV
 | _, [] => []
 | k, d :: r => .tup [.int k, d] :: enuD (k + 1) r
noncomputable def zpD : List DV -> List DV -> List DV
 | a :: r, b :: s => .tup [a, b] :: zpD r s
 | _, _ => []
noncomputable def Cl.meet : Cl -> Cl -> Cl
 | .weak, _ => .weak | _, .weak => .weak | .top, _ => .top | _, .top => .top | _, _ => .strong
noncomputable def q9j : DV -> Option (Bool × List DV)
 | .lst ds => some (false, ds)
 | .tup ds => some (true, ds)
 | _ => none
noncomputable def q7t (x : DV) (c : Cl) : Option Re := match q9j x with
 | some (_, xs) => some (.ok (.lst (enuD 0 xs)) (Cl.meet c c))
 | _ => none
noncomputable def zipD (x y : DV) (c c' : Cl) : Option Re := match q9j x, q9j y with
 | some (_, xs), some (_, ys) => some (.ok (.lst (zpD xs ys)) (Cl.meet c c'))
 | _, _ => none
noncomputable def kvs? : List DKey -> List DV -> Option (List (Int × Int))
 | [], [] => some []
 | .i k :: ks, .int v :: vs => (kvs? ks vs).map ((k, v) :: ·)
 | _, _ => none
noncomputable def itmD (x : DV) (c : Cl) : Option Re := match x with
 | .dct ks vs => if c = .strong then (kvs? ks vs).map (λ l => .ok (.lst (l.map λ p => .tup [.int p.1, .int p.2])) .strong) else none
 | _ => none
noncomputable def dixD (x y : DV) : Option Re := match x, y with
 | .dct ks vs, .int k => (match q3h (.i k) ks vs with
  | some (.int v) => some (.ok (.int v) .strong)
  | _ => none)
 | _, _ => none
noncomputable def dgtD (x y z : DV) : Option Re := match x, y, z with
 | .dct ks vs, .int k, .int e => (match (q3h (.i k) ks vs).getD (.int e) with
  | .int v => some (.ok (.int v) .strong)
  | _ => none)
 | _, _, _ => none
noncomputable def seqD : DV -> Option (List DV)
 | .scr ns => some (ns.map DV.int)
 | .lst ds => some ds
 | .tup ds => some ds
 | _ => none
noncomputable def q3Z (δ : List Sv) : List Nat -> List DV -> Option (List Sv)
 | [], [] => some δ
 | i :: is, d :: ds => q3Z (δ.set i (.val d)) is ds
 | _, _ => none
noncomputable def Tg.bind (tg : Tg) (d : DV) (δ : List Sv) : Option (List Sv) := match tg with
 | .one i => some (δ.set i (.val d))
 | .many is => match d with
  | .tup ds => q3Z δ is ds
  | _ => none
noncomputable def Sv.plain : Sv -> Sv
 | .ot _ => .no
 | .o2 _ => .no
 | .od _ => .no
 | s => s
noncomputable def q0t (fr : List (Option Nat)) (δ : List Sv) : List Sv := fr.map λ o => match o with
 | some i => (δ.getD i .no).plain
 | none => .no
inductive Rc where
 | skip | item (d : DV)
noncomputable def q0K (g : DV -> Option Rc) : List DV -> Option (List DV)
 | [] => some []
 | d :: r => match g d with
  | none => none
  | some .skip => q0K g r
  | some (.item x) => match q0K g r with
   | none => none
   | some xs => some (x :: xs)
noncomputable def q1w (r : Option (List DV)) : Option Re := match r with
 | none => none
 | some xs => some (.ok (.lst xs) .fresh)
noncomputable def q2d (r : Option (List DV)) : Option Re := match r with
 | none => none
 | some xs => some (.ok (.lst xs) .weak)
noncomputable def Rc.of (r : Option Re) : Option Rc := match r with
 | some (.ok d c) => if stro d c then some (.item d) else none
 | _ => none
noncomputable def Rc.test (t : Option Rt) (r : Option Rc) : Option Rc := match t with
 | some (.ok true) => r
 | some (.ok false) => some .skip
 | _ => none
inductive Ri where
 | ok (ds : List DV) (c : Cl) | ex (c : Str)
noncomputable def Ri.thn (r : Option Ri) (k : List DV -> Cl -> Option Re) : Option Re := match r with
 | none => none
 | some (.ex c) => some (.ex c)
 | some (.ok ds c) => k ds c
noncomputable def Re.thnI (r : Option Re) (k : DV -> Cl -> Option Ri) : Option Ri := match r with
 | none => none
 | some (.ex c) => some (.ex c)
 | some (.ok d c) => k d c
noncomputable def z5L (d : DV) (c : Cl) : Option Ri := (seqD d).map λ ds => .ok ds c
noncomputable def q3Q (F : Nat -> List DV -> Option Ou) (f : Nat) (l : List (DV × Cl)) : Option Re := match F f (l.map (·.1)) with
 | none => none
 | some (.x c) => some (.ex c)
 | some (.t d) => some (.ok d (if l.all λ p => p.2 == .strong || p.2 == .fresh then (match d with | .lst _ => .fresh | _ => .ft) else .weak))
 | some (.v d fr) => some (.ok d (if l.all λ p => p.2 == .strong || p.2 == .fresh then (if fr then .fresh else .strong) else .weak))
noncomputable def andD (x : DV) (c : Cl) (r : Option Re) : Option Re := match q1Y x with
 | none => none
 | some true => r
 | some false => some (.ok x c)
noncomputable def orD (x : DV) (c : Cl) (r : Option Re) : Option Re := match q1Y x with
 | none => none
 | some true => some (.ok x c)
 | some false => r
noncomputable def tstD (r : Option Re) : Option Rt := Re.thnT r λ x _ => (q1Y x).map Rt.ok
noncomputable def q0N (r : Option Re) : Option Ri := Re.thnI r λ x c => z5L x c
mutual
noncomputable def evE (G : Gs) (F : Nat -> List DV -> Option Ou) : ME -> List Sv -> Option Re
 | .var i, δ => match δ[i]? with
  | some (.val d) => some (.ok d .strong)
  | some (.own d) => some (.ok d .top)
  | some (.ot d) => some (.ok d .weak)
  | some (.o2 d) => some (.ok d .weak)
  | _ => none
 | .int i, _ => some (.ok (.int i) .strong)
 | .bl i, _ => some (.ok (.bl i) .strong)
 | .str i, _ => some (.ok (.str i) .strong)
 | .non, _ => some (.ok .non .strong)
 | .glb x, _ => (G.con.lookup x).map λ d => .ok d .strong
 | .bin op a b, δ => Re.thn (evE G F a δ) λ x cx => Re.thn (evE G F b δ) λ y cy => binD op x y cx cy
 | .neg a, δ => Re.thn (evE G F a δ) λ x _ => match x with | .int i => some (.ok (.int (-i)) .strong) | _ => none
 | .not a, δ => Re.thn (evE G F a δ) λ x _ => (q1Y x).map λ k => .ok (.bl (!k)) .strong
 | .cmp op a b, δ => Re.thn (evE G F a δ) λ x _ => Re.thn (evE G F b δ) λ y _ => (cmpD op x y).map λ k => .ok (.bl k) .strong
 | .and es, δ => q2h G F es δ
 | .or es, δ => evOr G F es δ
 | .lst es, δ => Rs.thn (evEs G F es δ) λ l => if l.length <= mostLen then some (.ok (.lst (l.map (·.1))) (if stros l then .fresh else .weak)) else none
 | .tup es, δ => Rs.thn (evEs G F es δ) λ l => if l.length <= mostLen then some (.ok (.tup (l.map (·.1))) (if stros l then .strong else .weak)) else none
 | .dct i a, δ => Re.thn (evE G F a δ) λ d c => if stro d c then some (.ok (.dct [.i i] [d]) .strong) else none
 | .dc0, _ => some (.ok (.dct [] []) .strong)
 | .ix a b, δ => Re.thn (evE G F a δ) λ x cx => Re.thn (evE G F b δ) λ y _ => (ixD x y).map λ d => .ok d cx.item
 | .sl a lo hi, δ => Re.thn (evE G F a δ) λ x cx => Re.thn (evE G F lo δ) λ l _ => match l with
  | .int l => Re.thn (evE G F hi δ) λ h _ => (match h with
   | .int h => (slD x (some l) (some h)).map λ d => .ok d (slCl x cx)
   | _ => none)
  | _ => none
 | .slf a lo, δ => Re.thn (evE G F a δ) λ x cx => Re.thn (evE G F lo δ) λ l _ => match l with
  | .int l => (slD x (some l) none).map λ d => .ok d (slCl x cx)
  | _ => none
 | .slt a hi, δ => Re.thn (evE G F a δ) λ x cx => Re.thn (evE G F hi δ) λ h _ => match h with
  | .int h => (slD x none (some h)).map λ d => .ok d (slCl x cx)
  | _ => none
 | .call f es, δ => Rs.thn (evEs G F es δ) λ l => q3Q F f l
 | .bi f es, δ => if biOk f then Rs.thn (evEs G F es δ) λ l => biD f l else none
 | .isi a ts, δ => Re.thn (evE G F a δ) λ x _ => (isiD G x ts).map λ k => .ok (.bl k) .strong
 | .comp elt tg it fr, δ => Ri.thn (q0N (evE G F it δ)) λ ds c => if c = .weak \/ mostLen < ds.length then (if c = .weak /\ ds.length <= mostLen then q2d (q0K (λ d => (tg.bind d (q0t fr [])).bind λ δ' => Rc.of (evE G F elt δ')) ds) else none) else q1w (q0K (λ d => (tg.bind d (q0t fr δ)).bind λ δ' => Rc.of (evE G F elt δ')) ds)
 | .compi elt tg it cd fr, δ => Ri.thn (q0N (evE G F it δ)) λ ds c => if c = .weak \/ mostLen < ds.length then none else q1w (q0K (λ d => (tg.bind d (q0t fr δ)).bind λ δ' => Rc.test (tstD (evE G F cd δ')) (Rc.of (evE G F elt δ'))) ds)
 | .rng es, δ => Rs.thn (evEs G F es δ) λ l => (rngD l).map λ ds => .ok (.lst ds) .fresh
 | .zp a b, δ => Re.thn (evE G F a δ) λ x c => Re.thn (evE G F b δ) λ y c' => zipD x y c c'
 | .enu a, δ => Re.thn (evE G F a δ) λ x c => q7t x c
 | .itm a, δ => Re.thn (evE G F a δ) λ x c => itmD x c
 | .dix a k, δ => Re.thn (evE G F a δ) λ x _ => Re.thn (evE G F k δ) λ y _ => dixD x y
 | .dgt i k e, δ => match δ[i]? with
  | some (.od x) => Re.thn (evE G F k δ) λ y _ => Re.thn (evE G F e δ) λ z _ => dgtD x y z
  | _ => none
noncomputable def evEs (G : Gs) (F : Nat -> List DV -> Option Ou) : List ME -> List Sv -> Option Rs
 | [], _ => some (.ok [])
 | e :: es, δ => match evE G F e δ with
  | none => none
  | some (.ex c) => some (.ex c)
  | some (.ok d c) => match evEs G F es δ with
   | none => none
   | some (.ex c) => some (.ex c)
   | some (.ok l) => some (.ok ((d, c) :: l))
noncomputable def q2h (G : Gs) (F : Nat -> List DV -> Option Ou) : List ME -> List Sv -> Option Re
 | [], _ => none
 | e :: es, δ => if es.isEmpty then evE G F e δ else Re.thn (evE G F e δ) λ x c => andD x c (q2h G F es δ)
noncomputable def evOr (G : Gs) (F : Nat -> List DV -> Option Ou) : List ME -> List Sv -> Option Re
 | [], _ => none
 | e :: es, δ => if es.isEmpty then evE G F e δ else Re.thn (evE G F e δ) λ x c => orD x c (evOr G F es δ)
end
noncomputable def q4y : Nat := 1000
noncomputable def Re.thnS (δ : List Sv) (r : Option Re) (k : DV -> Cl -> Option Out) : Option Out := match r with
 | none => none
 | some (.ex c) => some (.ex c δ)
 | some (.ok d c) => k d c
noncomputable def Rt.thnS (δ : List Sv) (r : Option Rt) (k : Bool -> Option Out) : Option Out := match r with
 | none => none
 | some (.ex c) => some (.ex c δ)
 | some (.ok b) => k b
noncomputable def Ri.thnS (δ : List Sv) (r : Option Ri) (k : List DV -> Cl -> Option Out) : Option Out := match r with
 | none => none
 | some (.ex c) => some (.ex c δ)
 | some (.ok ds c) => k ds c
noncomputable def q1F (tg : Tg) (body : List Sv -> Option Out) : List DV -> List Sv -> Option Out
 | [], δ => some (.nx δ)
 | d :: r, δ => match tg.bind d δ with
  | none => none
  | some δ1 => match body δ1 with
   | some (.nx δ2) => q1F tg body r δ2
   | o => o
noncomputable def q1b (test : List Sv -> Option Rt) (body : List Sv -> Option Out) : Nat -> List Sv -> Option Out
 | 0, _ => none
 | n + 1, δ => match test δ with
  | none => none
  | some (.ex c) => some (.ex c δ)
  | some (.ok false) => some (.nx δ)
  | some (.ok true) => match body δ with
   | some (.nx δ2) => q1b test body n δ2
   | o => o
noncomputable def frD : DV -> Cl -> Bool
 | .lst _, .fresh => true | .lst _, .top => true
 | _, _ => false
noncomputable def noOt (i : Nat) (δ : List Sv) : Bool := (List.range δ.length).all λ j => j == i || (match δ[j]? with | some (.ot _) => false | some (.o2 _) => false | some (.od _) => false | _ => true)
noncomputable def q3z (i : Nat) (δ : List Sv) (d : DV) (c : Cl) : Option Out := match c with
 | .fresh => some (.nx (δ.set i (.own d)))
 | .ft => if noOt i δ then some (.nx (δ.set i (.ot d))) else none
 | _ => none
noncomputable def retD (d : DV) (c : Cl) : Out := match c with
 | .ft => .rtt d
 | _ => .rt d (frD d c)
mutual
noncomputable def evS (G : Gs) (F : Nat -> List DV -> Option Ou) (fu : Nat) : MS -> List Sv -> Option Out
 | .set i own e, δ => Re.thnS δ (evE G F e δ) λ d c => if own then q3z i δ d c else (if stro d c then some (.nx (δ.set i (.val d))) else none)
 | .app i e, δ => match δ[i]? with
  | some (.own (.lst ds)) => Re.thnS δ (evE G F e δ) λ d c => if stro d c /\ ds.length < mostLen then some (.nx (δ.set i (.own (.lst (ds ++ [d]))))) else none
  | _ => none
 | .seti i k e, δ => match δ[i]? with
  | some (.own (.lst ds)) => Re.thnS δ (evE G F e δ) λ d c => Re.thnS δ (evE G F k δ) λ k _ => (match k with
   | .int k => (match q2A ds.length k with
    | some j => if stro d c then some (.nx (δ.set i (.own (.lst (ds.set j d))))) else none
    | none => none)
   | _ => none)
  | _ => none
 | .ret e, δ => Re.thnS δ (evE G F e δ) λ d c => some (retD d c)
 | .iff c a b, δ => Rt.thnS δ (tstD (evE G F c δ)) λ k => if k then evSs G F fu a δ else evSs G F fu b δ
 | .fo tg it body, δ => Ri.thnS δ (q0N (evE G F it δ)) λ ds c => if c = .strong \/ c = .fresh then q1F tg (λ δ' => evSs G F fu body δ') ds δ else none
 | .wh c body, δ => q1b (λ δ' => tstD (evE G F c δ')) (λ δ' => evSs G F fu body δ') fu δ
 | .sed i, δ => if noOt i δ then some (.nx (δ.set i (.od (.dct [] [])))) else none
 | .retd i, δ => match δ[i]? with
  | some (.od d) => some (.rt d false)
  | _ => none
 | .dput i k e, δ => match δ[i]? with
  | some (.od (.dct ks vs)) => Re.thnS δ (evE G F e δ) λ d _ => Re.thnS δ (evE G F k δ) λ k _ => (match k, d with
   | .int k, .int z => if ks.length < mostLen then some (.nx (δ.set i (.od (.dct (putD (.i k) (.int z) ks vs).1 (putD (.i k) (.int z) ks vs).2)))) else none
   | _, _ => none)
  | _ => none
 | .frz i, δ => match δ[i]? with
  | some (.own d) => some (.nx (δ.set i (.val d)))
  | _ => some (.nx δ)
noncomputable def evSs (G : Gs) (F : Nat -> List DV -> Option Ou) (fu : Nat) : List MS -> List Sv -> Option Out
 | [], δ => some (.nx δ)
 | s :: r, δ => match evS G F fu s δ with
  | some (.nx δ') => evSs G F fu r δ'
  | o => o
end
noncomputable def q0L (n : Nat) (ds : List DV) : List Sv := ds.map Sv.val ++ List.replicate (n - ds.length) .no
noncomputable def Ou.of (o : Option Out) : Option Ou := match o with
 | some (.nx _) => some (.v .non false)
 | some (.rt d fr) => some (.v d fr)
 | some (.rtt d) => some (.t d)
 | some (.ex c _) => some (.x c)
 | none => none
noncomputable def q5r : Nat -> DV -> List DV -> Option (DV × List DV)
 | 0, _, _ => none
 | k + 1, d, l => match d with
  | .tup [.str s, x] => if decide (s = "end") && d.plain 60 && DV.plains 59 l then (match l with
   | [] => some (d, [])
   | y :: l' => some (y, l')) else none
  | .tup [.str s, a, b, c, e] => if decide (s ≠ "end") && (s.cps.all (· < 0x110000)) then (match q5r k c l with
   | none => none
   | some (n, l1) => match q5r k e l1 with
    | none => none
    | some (y, l2) => some (.tup [.str "ask", a, b, n, y], l2)) else none
  | _ => none
noncomputable def q7q (k : Nat) (f : Nat) (ds : List DV) : Option Ou := match ds with
 | [d, .lst l] => if f = q4y then (q5r k d l).map (λ r => .v r.1 false) else none
 | _ => none
noncomputable def run (G : Gs) (T : List FD) (fu : Nat) : Nat -> Nat -> List DV -> Option Ou
 | 0, _, _ => none
 | k + 1, f, ds => match T[f]? with
  | none => q7q (k + 1) f ds
  | some fd => if ds.length = fd.np then Ou.of (evSs G (run G T fu k) fu fd.body (q0L fd.n ds)) else none
end L2
end
section
namespace L2
open PySem
section
variable {G : Gs} {F : Nat -> List DV -> Option Ou} {fu : Nat} {δ : List Sv}
theorem q0M {d : DV} {c : Cl} {k : DV -> Cl -> Option Re} : Re.thn (some (.ok d c)) k = k d c := rfl
theorem q4m {l : List (DV × Cl)} {k : List (DV × Cl) -> Option Re} : Rs.thn (some (.ok l)) k = k l := rfl
theorem q7C {ds : List DV} {c : Cl} {k : List DV -> Cl -> Option Re} : Ri.thn (some (.ok ds c)) k = k ds c := rfl
theorem q4x {d : DV} {c : Cl} {k : DV -> Cl -> Option Out} : Re.thnS δ (some (.ok d c)) k = k d c := rfl
theorem z4B {m : MS} {r : List MS} {δ' : List Sv} (h : evS G F fu m δ = some (.nx δ')) : evSs G F fu (m :: r) δ = evSs G F fu r δ' := by
 rw [show evSs G F fu (m :: r) δ = (match evS G F fu m δ with | some (.nx δ') => evSs G F fu r δ' | o => o) from rfl, h]
theorem z4Y {m : MS} {r : List MS} {d : DV} {fr : Bool} (h : evS G F fu m δ = some (.rt d fr)) : evSs G F fu (m :: r) δ = some (.rt d fr) := by
 rw [show evSs G F fu (m :: r) δ = (match evS G F fu m δ with | some (.nx δ') => evSs G F fu r δ' | o => o) from rfl, h]
theorem q1X {T : List FD} {k f : Nat} {ds : List DV} {fd : FD} (h : T[f]? = some fd) (hl : ds.length = fd.np) : run G T fu (k + 1) f ds = Ou.of (evSs G (run G T fu k) fu fd.body (q0L fd.n ds)) := by
 show (match T[f]? with | none => q7q (k + 1) f ds | some fd => if ds.length = fd.np then Ou.of (evSs G (run G T fu k) fu fd.body (q0L fd.n ds)) else none) = _
 rw [h]
 exact if_pos hl
end
end L2
namespace L2
open PySem
theorem q3Y {g : DV -> Option Rc} {f : DV -> DV} : ∀ {ds : List DV}, (∀ d ∈ ds, g d = some (.item (f d))) -> q0K g ds = some (ds.map f)
 | [], _ => rfl
 | d :: r, h => by
  have h0 := h d (List.mem_cons_self ..)
  have ih := q3Y (ds := r) (λ d hd => h d (List.mem_cons_of_mem _ hd))
  unfold q0K
  rw [h0]
  show (match q0K g r with | none => none | some xs => some (f d :: xs)) = _
  rw [ih]
  rfl
theorem q6A {lo : Int} {n : Nat} {d : DV} (h : d ∈ upTo lo n) : ∃ j : Nat, j < n /\ d = .int (lo + j) := by
 unfold upTo at h
 rw [List.mem_map] at h
 obtain ⟨j, hj, rfl⟩ := h
 exact ⟨j, List.mem_range.mp hj, rfl⟩
end L2
namespace L2
open PySem
section
variable {G : Gs} {F : Nat -> List DV -> Option Ou} {fu : Nat} {δ δ' : List Sv} {m : MS} {r a b body : List MS} {o : Option Out} {c it : ME} {d : DV} {fr : Bool} {tg : Tg} {ds : List DV} {cl : Cl}
theorem q3i (h : evSs G F fu r δ = some (.rt d fr)) : Ou.of (evSs G F fu r δ) = some (.v d fr) := by rw [h]; rfl
theorem q0w (h : evS G F fu m δ = some (.nx δ')) (h2 : evSs G F fu r δ' = o) : evSs G F fu (m :: r) δ = o := (z4B h).trans h2
theorem q2L (h : evS G F fu m δ = some (.rt d fr)) : evSs G F fu (m :: r) δ = some (.rt d fr) := z4Y h
theorem z1h {bb : Bool} (hc : tstD (evE G F c δ) = some (.ok bb)) : evS G F fu (.iff c a b) δ = if bb then evSs G F fu a δ else evSs G F fu b δ := by
 show Rt.thnS δ (tstD (evE G F c δ)) (λ k => if k then evSs G F fu a δ else evSs G F fu b δ) = _
 rw [hc]; rfl
theorem q5i (hc : tstD (evE G F c δ) = some (.ok true)) (h : evSs G F fu a δ = some (.nx δ')) (h2 : evSs G F fu r δ' = o) : evSs G F fu (.iff c a b :: r) δ = o := q0w ((z1h hc).trans h) h2
theorem z4R (hc : tstD (evE G F c δ) = some (.ok false)) (h : evSs G F fu b δ = some (.nx δ')) (h2 : evSs G F fu r δ' = o) : evSs G F fu (.iff c a b :: r) δ = o := q0w ((z1h hc).trans h) h2
theorem q8j (hc : tstD (evE G F c δ) = some (.ok true)) (h : evSs G F fu a δ = some (.rt d fr)) : evSs G F fu (.iff c a b :: r) δ = some (.rt d fr) := q2L ((z1h hc).trans h)
theorem q1R (hc : tstD (evE G F c δ) = some (.ok false)) (h2 : evSs G F fu r δ = o) : evSs G F fu (.iff c a [] :: r) δ = o := z4R hc rfl h2
theorem q6U (hw : q0N (evE G F it δ) = some (.ok ds cl)) (hc : cl = .strong \/ cl = .fresh) (h : q1F tg (λ δ' => evSs G F fu body δ') ds δ = some (.nx δ')) (h2 : evSs G F fu r δ' = o) : evSs G F fu (.fo tg it body :: r) δ = o := by
 refine q0w ?_ h2
 show Ri.thnS δ (q0N (evE G F it δ)) (λ ds c => if c = .strong \/ c = .fresh then q1F tg (λ δ' => evSs G F fu body δ') ds δ else none) = _
 rw [hw]
 show (if cl = .strong \/ cl = .fresh then q1F tg (λ δ' => evSs G F fu body δ') ds δ else none) = _
 rw [if_pos hc]
 exact h
theorem q0E {i : Nat} {e : ME} (h : evE G F e δ = some (.ok d cl)) (hs : stro d cl = true) : evS G F fu (.set i false e) δ = some (.nx (δ.set i (.val d))) := by
 show Re.thnS δ (evE G F e δ) (λ d c => if false then q3z i δ d c else (if stro d c then some (.nx (δ.set i (.val d))) else none)) = _
 rw [h]
 show (if stro d cl then some (Out.nx (δ.set i (.val d))) else none) = _
 rw [if_pos hs]
theorem q4X {i : Nat} {e : ME} (h : evE G F e δ = some (.ok d .fresh)) : evS G F fu (.set i true e) δ = some (.nx (δ.set i (.own d))) := by
 show Re.thnS δ (evE G F e δ) (λ d c => if true then q3z i δ d c else (if stro d c then some (.nx (δ.set i (.val d))) else none)) = _
 rw [h]
 rfl
theorem q4i {e : ME} (h : evE G F e δ = some (.ok d cl)) (hc : cl ≠ .ft := by first | decide | (intro z; cases z)) : evS G F fu (.ret e) δ = some (.rt d (frD d cl)) := by
 show Re.thnS δ (evE G F e δ) (λ d c => some (retD d c)) = _
 rw [h]
 show some (retD d cl) = _
 cases cl <;> first | rfl | exact absurd rfl hc
theorem q0W {f : Nat} {es : List ME} {l : List (DV × Cl)} (ha : evEs G F es δ = some (.ok l)) (hs : (l.all λ p => p.2 == .strong || p.2 == .fresh) = true) (h : F f (l.map (·.1)) = some (.v d fr)) : evE G F (.call f es) δ = some (.ok d (if fr then .fresh else .strong)) := by
 show Rs.thn (evEs G F es δ) (λ l => q3Q F f l) = _
 rw [ha]
 show q3Q F f l = _
 unfold q3Q
 rw [h, hs]
 rfl
theorem q6p {f : Nat} {es : List ME} {l : List (DV × Cl)} (ha : evEs G F es δ = some (.ok l)) (hs : (l.all λ p => p.2 == .strong || p.2 == .fresh) = false) (h : F f (l.map (·.1)) = some (.v d fr)) : evE G F (.call f es) δ = some (.ok d .weak) := by
 show Rs.thn (evEs G F es δ) (λ l => q3Q F f l) = _
 rw [ha]
 show q3Q F f l = _
 unfold q3Q
 rw [h, hs]
 rfl
theorem q0P {e : ME} {x : Bool} (h : evE G F e δ = some (.ok (.bl x) cl)) : tstD (evE G F e δ) = some (.ok x) := by rw [h]; rfl
theorem q8s {e : ME} {x : Bool} (h : evE G F e δ = some (.ok (.bl x) cl)) : evE G F (.not e) δ = some (.ok (.bl (!x)) .strong) := by
 show Re.thn (evE G F e δ) (λ x _ => (q1Y x).map λ k => .ok (.bl (!k)) .strong) = _
 rw [h]; rfl
end
end L2
namespace L2
open PySem
section
variable {G : Gs} {F : Nat -> List DV -> Option Ou} {fu : Nat} {δ δ' : List Sv} {a b : ME} {x y : DV} {cx cy : Cl}
theorem q1Z {op : Operator} {r : Option Re} (ha : evE G F a δ = some (.ok x cx)) (hb : evE G F b δ = some (.ok y cy)) (h : binD op x y cx cy = r) : evE G F (.bin op a b) δ = r := by
 show Re.thn (evE G F a δ) (λ x cx => Re.thn (evE G F b δ) λ y cy => binD op x y cx cy) = _
 rw [ha, q0M, hb, q0M, h]
theorem q3u {op : CmpOp} {t : Bool} (ha : evE G F a δ = some (.ok x cx)) (hb : evE G F b δ = some (.ok y cy)) (h : cmpD op x y = some t) : evE G F (.cmp op a b) δ = some (.ok (.bl t) .strong) := by
 show Re.thn (evE G F a δ) (λ x _ => Re.thn (evE G F b δ) λ y _ => (cmpD op x y).map λ k => .ok (.bl k) .strong) = _
 rw [ha, q0M, hb, q0M, h]; rfl
theorem q1p {d : DV} (ha : evE G F a δ = some (.ok x cx)) (hb : evE G F b δ = some (.ok y cy)) (h : ixD x y = some d) : evE G F (.ix a b) δ = some (.ok d cx.item) := by
 show Re.thn (evE G F a δ) (λ x cx => Re.thn (evE G F b δ) λ y _ => (ixD x y).map λ d => .ok d cx.item) = _
 rw [ha, q0M, hb, q0M, h]; rfl
theorem z1u {o : Option Re} (ha : evE G F a δ = some (.ok (.bl false) cx)) (hb : evE G F b δ = o) : evE G F (.or [a, b]) δ = o := by
 show Re.thn (evE G F a δ) (λ x c => orD x c (evE G F b δ)) = _
 rw [ha]; exact hb
theorem q0C : evEs G F [] δ = some (.ok []) := rfl
theorem q0g {es : List ME} {l : List (DV × Cl)} (ha : evE G F a δ = some (.ok x cx)) (h : evEs G F es δ = some (.ok l)) : evEs G F (a :: es) δ = some (.ok ((x, cx) :: l)) := by
 unfold evEs
 rw [ha, h]
end
end L2
namespace L2
open PySem
section
variable {G : Gs} {F : Nat -> List DV -> Option Ou} {fu : Nat} {δ δ' : List Sv} {a b c e : ME} {x y d : DV} {cx cy cl : Cl} {i : Nat} {ds : List DV}
theorem z3V (h0 : δ[i]? = some (.own (.lst ds))) (h : evE G F e δ = some (.ok d cl)) (hs : stro d cl = true) (hl : ds.length < mostLen) : evS G F fu (.app i e) δ = some (.nx (δ.set i (.own (.lst (ds ++ [d]))))) := by
 unfold evS
 rw [h0]
 show Re.thnS δ (evE G F e δ) (λ d c => if stro d c /\ ds.length < mostLen then some (.nx (δ.set i (.own (.lst (ds ++ [d]))))) else none) = _
 rw [h]
 exact if_pos ⟨hs, hl⟩
theorem q2X {k : ME} {n : Int} {j : Nat} (h0 : δ[i]? = some (.own (.lst ds))) (h : evE G F e δ = some (.ok d cl)) (hk : evE G F k δ = some (.ok (.int n) cx)) (hs : stro d cl = true) (hj : q2A ds.length n = some j) : evS G F fu (.seti i k e) δ = some (.nx (δ.set i (.own (.lst (ds.set j d))))) := by
 unfold evS
 rw [h0]
 show Re.thnS δ (evE G F e δ) (λ d c => Re.thnS δ (evE G F k δ) λ k _ => (match k with | .int k => (match q2A ds.length k with | some j => if stro d c then some (.nx (δ.set i (.own (.lst (ds.set j d))))) else none | none => none) | _ => none)) = _
 rw [h, q4x, hk, q4x]
 show (match q2A ds.length n with | some j => if stro d cl then some (Out.nx (δ.set i (.own (.lst (ds.set j d))))) else none | none => none) = _
 rw [hj]
 exact if_pos hs
theorem z3b {test : List Sv -> Option Rt} {body : List Sv -> Option Out} {n : Nat} (h : test δ = some (.ok false)) : q1b test body (n + 1) δ = some (.nx δ) := by
 unfold q1b
 rw [h]
theorem z2N {test : List Sv -> Option Rt} {body : List Sv -> Option Out} {n : Nat} {o : Option Out} (h : test δ = some (.ok true)) (hb : body δ = some (.nx δ')) (hr : q1b test body n δ' = o) : q1b test body (n + 1) δ = o := by
 unfold q1b
 rw [h, hb]
 exact hr
theorem z6k {body r : List MS} {o : Option Out} (h : q1b (λ δ' => tstD (evE G F c δ')) (λ δ' => evSs G F fu body δ') fu δ = some (.nx δ')) (h2 : evSs G F fu r δ' = o) : evSs G F fu (.wh c body :: r) δ = o := q0w h h2
end
end L2
namespace L2
open PySem
section
variable {G : Gs} {F : Nat -> List DV -> Option Ou} {fu : Nat} {δ δ' : List Sv} {a b c e : ME} {x y d : DV} {cx cy cl : Cl} {i : Nat} {ds : List DV}
theorem q2I {I : Nat -> List Sv -> Prop} {body : List Sv -> Option Out} : ∀ (n : Nat) (lo : Int) {δ : List Sv}, (∀ j < n, ∀ δ, I j δ -> ∃ δ2, body (δ.set i (.val (.int (lo + j)))) = some (.nx δ2) /\ I (j + 1) δ2) -> I 0 δ -> ∃ δ', q1F (.one i) body (upTo lo n) δ = some (.nx δ') /\ I n δ'
 | 0, _, δ, _, i0 => ⟨δ, rfl, i0⟩
 | n + 1, lo, δ, h, i0 => by
  have e : upTo lo (n + 1) = .int lo :: upTo (lo + 1) n := by
   unfold upTo
   rw [List.range_succ_eq_map, List.map_cons, List.map_map]
   congr 1
   ·congr 1; omega
   ·apply List.map_congr_left
    intro a _
    show DV.int _ = DV.int _
    congr 1
    push_cast
    omega
  obtain ⟨δ2, h0, i1⟩ := h 0 (by omega) δ i0
  rw [show lo + ((0 : Nat) : Int) = lo by omega] at h0
  obtain ⟨δ', h1, i2⟩ := q2I (I := λ j => I (j + 1)) n (lo + 1) (δ := δ2) (λ j hj δ q => by
   obtain ⟨δ3, q1, q2⟩ := h (j + 1) (by omega) δ q
   refine ⟨δ3, ?_, q2⟩
   rw [show lo + 1 + ((j : Nat) : Int) = lo + ((j + 1 : Nat) : Int) by push_cast; omega]
   exact q1) i1
  refine ⟨δ', ?_, i2⟩
  rw [e]
  show (match body (δ.set i (.val (.int lo))) with | some (.nx δ2) => q1F (.one i) body (upTo (lo + 1) n) δ2 | o => o) = _
  rw [h0]
  exact h1
theorem z4c {l : List Int} {j : Nat} (h : j < l.length) : ixD (.lst (l.map DV.int)) (.int j) = some (.int l[j]) := by
 have hh : (j : Int) < ((l.map DV.int).length : Int) := by rw [List.length_map]; exact_mod_cast h
 simp only [ixD, atD, q2A, if_pos (Int.natCast_nonneg j), if_pos hh, Option.bind_some, Int.toNat_natCast, List.getElem?_map, List.getElem?_eq_getElem h, Option.map_some]
theorem q6y {l : List Int} {i : Int} (h0 : 0 <= i) (h : i < l.length) : ∃ v, ixD (.lst (l.map DV.int)) (.int i) = some (.int v) := by
 obtain ⟨j, rfl⟩ := Int.eq_ofNat_of_zero_le h0
 exact ⟨_, z4c (by omega)⟩
end
end L2
namespace L2
open PySem
section
variable {G : Gs} {F : Nat -> List DV -> Option Ou} {fu : Nat} {δ δ' : List Sv} {r body : List MS} {it : ME} {cl : Cl} {ds : List DV} {tg : Tg} {o : Option Out}
end
end L2
namespace L2
open PySem
section
variable {G : Gs} {F : Nat -> List DV -> Option Ou} {fu : Nat} {δ δ' : List Sv} {a b : ME} {i j : Int} {cx cy : Cl}
theorem q0f : evE G F (.int i) δ = some (.ok (.int i) .strong) := rfl
theorem q0a {n : Nat} {d : DV} (h : δ[n]? = some (.val d)) : evE G F (.var n) δ = some (.ok d .strong) := by unfold evE; rw [h]
theorem q2R {n : Nat} {d : DV} (h : δ[n]? = some (.own d)) : evE G F (.var n) δ = some (.ok d .top) := by unfold evE; rw [h]
theorem q3e (ha : evE G F a δ = some (.ok (.int i) cx)) (hb : evE G F b δ = some (.ok (.int j) cy)) : evE G F (.bin .Add a b) δ = some (.ok (.int (i + j)) .strong) := q1Z ha hb rfl
theorem q5j (ha : evE G F a δ = some (.ok (.int i) cx)) (hb : evE G F b δ = some (.ok (.int j) cy)) : evE G F (.bin .Sub a b) δ = some (.ok (.int (i - j)) .strong) := q1Z ha hb rfl
theorem q3s (ha : evE G F a δ = some (.ok (.int i) cx)) (hb : evE G F b δ = some (.ok (.int j) cy)) (h : q2i i j = true) : evE G F (.bin .Mult a b) δ = some (.ok (.int (i * j)) .strong) := q1Z ha hb (if_pos h)
theorem q1U (ha : evE G F a δ = some (.ok (.int i) cx)) (hb : evE G F b δ = some (.ok (.int j) cy)) (h : 0 < j) : evE G F (.bin .Mod a b) δ = some (.ok (.int (i % j)) .strong) := q1Z ha hb (if_pos h)
theorem q9Z (ha : evE G F a δ = some (.ok (.int i) cx)) (hb : evE G F b δ = some (.ok (.int j) cy)) (h : 0 < j /\ j < 1073741824) : evE G F (.bin .FloorDiv a b) δ = some (.ok (.int (i / j)) .strong) := q1Z ha hb (if_pos ⟨h.1, Int.lt_trans h.2 (by decide)⟩)
theorem b_eq (ha : evE G F a δ = some (.ok (.int i) cx)) (hb : evE G F b δ = some (.ok (.int j) cy)) : evE G F (.cmp .Eq a b) δ = some (.ok (.bl (i == j)) .strong) := q3u ha hb rfl
theorem b_lt (ha : evE G F a δ = some (.ok (.int i) cx)) (hb : evE G F b δ = some (.ok (.int j) cy)) : evE G F (.cmp .Lt a b) δ = some (.ok (.bl (decide (i < j))) .strong) := q3u ha hb rfl
theorem b_gt (ha : evE G F a δ = some (.ok (.int i) cx)) (hb : evE G F b δ = some (.ok (.int j) cy)) : evE G F (.cmp .Gt a b) δ = some (.ok (.bl (decide (j < i))) .strong) := q3u ha hb rfl
end
end L2
namespace L2
open PySem
section
variable {G : Gs} {F : Nat -> List DV -> Option Ou} {fu : Nat} {δ δ' : List Sv} {es : List ME} {l : List (DV × Cl)}
end
end L2
namespace L2
open PySem
end L2
namespace L2
open PySem
end L2
end
section
namespace L2
open PySem
noncomputable def Rise (xs : Array Nat) : Prop := ∀ (i k x y : Nat), i < k -> xs[i]? = some x -> xs[k]? = some y -> x < y
structure Tab (t : SetTable) (b : Bool) : Prop where
 rise : Rise t.place
 dum : t.dummies = #[]
 led : t.led = b
end L2
end
section
namespace L2
open PySem
section
variable {prog : Program} {w : World} {A : Around} {E : Value -> Shared -> Prop} {s : Shared} {a : Addr} {ks : List Int}
theorem storeZ {h : Heap} {o : Obj} {es es' : Array (Int × Value)} {ep : Nat} {t t' : SetTable} (ho : h.get? a = some o) (hd : o.data = .set es ep t) :
  (h.update a (Obj.putSet es' t')).get? a = some { o with data := .set es' (ep + 1) t' } := by
 have q := Heap.get?_update_self (Obj.putSet es' t') ho (by rw [putSet_of es' t' hd]; rfl)
 rwa [putSet_of es' t' hd] at q
end
end L2
end
section
namespace L2
open PySem PySem.Spec PyProof.Rows
section
variable {prog : Program} {w : World} {A : Around} {E : Value -> Shared -> Prop} {s : Shared}
theorem z4u {l : List Int} {i : Nat} (h : i < l.length) : l.getD i 0 ∈ l := by
 rw [List.getD_eq_getElem?_getD, List.getElem?_eq_getElem h]
 exact List.getElem_mem h
theorem minL {l : Addr} {vs : List Value} {ns : List Int} {Q : Value -> Shared -> Prop} (hh : A.handled = none) (hl : s.heap.IsList l vs.toArray) (hi : IntsAre vs ns) (hz : ns ≠ [])
  (h : ∀ h' M (t : Tok) tk, (∀ b o, s.heap.get? b = some o -> h'.get? b = some o) -> M ∈ ns -> (∀ a ∈ ns, M <= a) -> Q (.int M t) { s with heap := h', toks := tk }) : wpAny (model prog w) A (call (.builtin "min") [.ref l]) Q E s := by
 obtain ⟨ys, e⟩ := hi.allInts.items
 have en : ns = ys.toList.map (·.1) := by rw [← hi.numsOf, ← nums_intItems, ← e]
 have zy : 0 < ys.size := by
  have q : 0 < ns.length := List.length_pos_iff.mpr hz
  rwa [en, List.length_map, Array.length_toList] at q
 rw [e] at hl
 refine min_intList hh hl zy λ v h1 tk q k => ?_
 obtain ⟨t, ev⟩ := intItems_at q
 subst ev
 obtain ⟨g1, g2⟩ := argBest_lt (numAt ys) (ys.size - 1)
 refine h h1 _ t tk k ?_ λ a ha => ?_
 ·rw [en, numAt_eq]
  exact z4u (by rw [List.length_map, Array.length_toList]; omega)
 ·rw [en] at ha
  obtain ⟨j, hj, ej⟩ := mem_getD ha
  subst ej
  rw [List.length_map, Array.length_toList] at hj
  rw [← numAt_eq]
  exact g2 j (by omega)
end
section
variable {X : Cx} {pos : Pos}
theorem z1f : ∀ {ns : List Int} {us : List Value}, Vals (ns.map V.int) us -> IntsAre us ns
 | [], us, h => by cases h; exact .nil
 | n :: ns, us, h => by
  cases h with
  | cons r t =>
   obtain ⟨tk, rfl⟩ := r
   exact .cons n tk (z1f t)
theorem q8d (hc : X.calm = true) : q2l X (.builtin "min") (λ xs H Q => ∃ (a : Addr) (ns : List Int), xs = [.ref a] /\ SqL X.K H a (ns.map V.int) /\ ns ≠ [] /\ ∀ M, M ∈ ns -> (∀ x ∈ ns, M <= x) -> Q (.int M) H) := by
 intro pins s σ H xs us Q I r h
 obtain ⟨a, ns, rfl, hq, hz, q⟩ := h
 obtain ⟨u, rfl, r1⟩ := q7h r
 cases r1
 obtain ⟨its, rv, pl, _⟩ := I.list hq
 exact minL (I.ok.hd hc) pl.isList (z1f rv) hz λ h' M t tk k m1 m2 => ⟨.int M, H, I.kept k, ⟨t, rfl⟩, q M m1 m2⟩
end
end L2
end
section
namespace L2
open PySem PySem.Spec PySem.Calls PyProof.Rows PySem.W
section
variable {prog : Program} {w : World} {A : Around} {E : Value -> Shared -> Prop} {s : Shared}
theorem q4N {t : Addr} {xs : Array (Int × Tok)} {Q : Value -> Shared -> Prop} (hh : A.handled = none) (ht : s.heap.IsTuple t (intItems xs)) (hne : 0 < xs.size)
  (h : ∀ v h' tk, (intItems xs)[argBest (λ i j => decide (numAt xs i < numAt xs j)) (xs.size - 1)]? = some v -> (∀ b o, s.heap.get? b = some o -> h'.get? b = some o) -> Q v { s with heap := h', toks := tk }) :
  wpAny (model prog w) A (call (.builtin "min") [.ref t]) Q E s := by
 obtain ⟨o, ho, hc, n, hd⟩ := id ht
 have hlt : t < s.heap.objs.size := Heap.lt_size ho
 refine call_min_walk (wpAny_pyIter_tuple ht ?_)
 refine ⟨_, _, _, _, _, _, _, rfl, Walks.tuple (A := A.in1) hh _ t (Nat.ne_of_lt hlt) (intItems xs), ⟨⟨_, Heap.get?_push_size _ rfl, rfl, rfl⟩, ht.push _⟩, λ b hb => ?_, by simpa [intItems] using hne, CmpOf.ints_lt (numAt xs) (λ _ _ => intItems_at), λ v h' tk hP hk => ?_⟩
 ·show b < (s.heap.push _).objs.size
  rw [Heap.size_push]
  rcases List.mem_cons.mp hb with rfl | hb
  ·exact Nat.lt_succ_self _
  ·rcases List.mem_cons.mp hb with rfl | hb
   ·exact Nat.lt_succ_of_lt hlt
   ·cases hb
 ·refine h v h' tk (by simpa [intItems] using hP) λ b o e => hk b o (λ hm => ?_) (Heap.get?_push_of_some _ e)
  rcases List.mem_cons.mp hm with e1 | hm
  ·exact absurd (e1 ▸ Heap.lt_size e) (Nat.lt_irrefl _)
  ·cases hm
end
section
variable {prog : Program} {w : World} {A : Around} {E : Value -> Shared -> Prop} {s : Shared}
end
end L2
end
section
namespace L2
open PySem PySem.Spec PyProof.Rows
section
variable {prog : Program} {w : World} {A : Around} {E : Value -> Shared -> Prop} {s : Shared}
theorem minT {l : Addr} {vs : List Value} {ns : List Int} {Q : Value -> Shared -> Prop} (hh : A.handled = none) (hl : s.heap.IsTuple l vs.toArray) (hi : IntsAre vs ns) (hz : ns ≠ [])
  (h : ∀ h' M (t : Tok) tk, (∀ b o, s.heap.get? b = some o -> h'.get? b = some o) -> M ∈ ns -> (∀ a ∈ ns, M <= a) -> Q (.int M t) { s with heap := h', toks := tk }) : wpAny (model prog w) A (call (.builtin "min") [.ref l]) Q E s := by
 obtain ⟨ys, e⟩ := hi.allInts.items
 have en : ns = ys.toList.map (·.1) := by rw [← hi.numsOf, ← nums_intItems, ← e]
 have zy : 0 < ys.size := by
  have q : 0 < ns.length := List.length_pos_iff.mpr hz
  rwa [en, List.length_map, Array.length_toList] at q
 rw [e] at hl
 refine q4N hh hl zy λ v h1 tk q k => ?_
 obtain ⟨t, ev⟩ := intItems_at q
 subst ev
 obtain ⟨g1, g2⟩ := argBest_lt (numAt ys) (ys.size - 1)
 refine h h1 _ t tk k ?_ λ a ha => ?_
 ·rw [en, numAt_eq]
  exact z4u (by rw [List.length_map, Array.length_toList]; omega)
 ·rw [en] at ha
  obtain ⟨j, hj, ej⟩ := mem_getD ha
  subst ej
  rw [List.length_map, Array.length_toList] at hj
  rw [← numAt_eq]
  exact g2 j (by omega)
end
section
variable {X : Cx}
theorem q7x (hc : X.calm = true) : q2l X (.builtin "min") (λ xs H Q => ∃ (a : Addr) (ns : List Int), xs = [.ref a] /\ SqT X.K H a (ns.map V.int) /\ ns ≠ [] /\ ∀ M, M ∈ ns -> (∀ x ∈ ns, M <= x) -> Q (.int M) H) := by
 intro pins s σ H xs us Q I r h
 obtain ⟨a, ns, rfl, hq, hz, q⟩ := h
 obtain ⟨u, rfl, r1⟩ := q7h r
 cases r1
 obtain ⟨its, rv, pl, _⟩ := I.tuple hq
 exact minT (I.ok.hd hc) pl (z1f rv) hz λ h' M t tk k m1 m2 => ⟨.int M, H, I.kept k, ⟨t, rfl⟩, q M m1 m2⟩
end
end L2
end
section
namespace L2
open PySem PySem.Spec PySem.Calls PyProof.Rows PySem.W
noncomputable def z1Y (prog : Program) (w : World) (A : Around) (P : Nat -> Value -> Prop) (St : Nat -> Heap -> Prop) (bt : Nat -> Nat -> Bool) : Prop :=
 ∀ k i j vi vj (s : Shared) (Q : Value -> Shared -> Prop) (E : Value -> Shared -> Prop), St k s.heap -> P i vi -> P j vj -> Q (.bool (bt i j)) s -> wpAny (model prog w) A (richCompare .Lt vi vj) Q E s
section
variable {prog : Program} {w : World} {A : Around} {R : Result -> Shared -> Prop} {I : Addr} {fp wr : List Addr} {n : Nat} {P : Nat -> Value -> Prop} {St : Nat -> Heap -> Prop}
theorem q9i (W : Walks prog w A.in1 I fp wr n P St) (bt : Nat -> Nat -> Bool) (hcmp : z1Y prog w A.in1 P St bt) (S : Addr) (hSf : S ∉ fp) :
  ∀ (k j : Nat) (s : Shared) (vb : Value) (c : Nat), n - (j + 1) = k -> j + 1 <= n -> St (j + 1) s.heap -> P (argBest bt j) vb ->
  s.heap.get? S = some { cls := .type "list", dict := none, data := .seq #[vb, vb] c, slots := #[] } ->
  (∀ v h' tk, P (argBest bt (n - 1)) v -> (∀ b o, b ∉ wr -> b ≠ S -> s.heap.get? b = some o -> h'.get? b = some o) -> R (.ok (.ret v)) { s with heap := h', toks := tk }) ->
  codeAny (model prog w) A (.builtin "min.loop" ⟨[.ref I, .none, .ref S], []⟩) R s := by
 have hSw : S ∉ wr := λ h => hSf (W.sub _ h)
 have hname : (toString "min" ++ toString ".loop" : String) = "min.loop" := by decide
 intro k
 induction k with
 | zero =>
  intro j s vb c hk hj hst hPb hS hR
  have hin : j + 1 = n := by omega
  refine codeAny_builtin F.entry_min_loop ?_
  rw [Around.under_plainId F.plain_min_loop _]
  show wpAny _ A.in1 (seqItems? (.ref S) >>= _) _ _ s
  refine wpAny_bind (wpAny_seqItems hS rfl ?_)
  show wpAny _ A.in1 (tryCatch (pyNext (.ref I)) _ >>= _) _ _ s
  refine wpAny_bind (wpAny_tryCatch (W.done s _ _ (hin ▸ hst) λ h' tk hk' => ?_))
  have hS' := hk' S _ hSw hS
  show wpAny _ A.in1 (updateSeq S (λ _ => #[]) >>= _) _ _ _
  refine wpAny_bind ?_
  refine wpAny_updateSeq hS' rfl (wpAny_bind (wpAny_letGo (wpAny_pure ?_)))
  exact hR vb _ tk (by rw [← hin]; exact hPb) λ b o hbw hbS e => (Heap.get?_update_other _ _ (Ne.symm hbS)).trans (hk' b o hbw e)
 | succ k ih =>
  intro j s vb c hk hj hst hPb hS hR
  have hlt : j + 1 < n := by omega
  refine codeAny_builtin F.entry_min_loop ?_
  rw [Around.under_plainId F.plain_min_loop _]
  show wpAny _ A.in1 (seqItems? (.ref S) >>= _) _ _ s
  refine wpAny_bind (wpAny_seqItems hS rfl ?_)
  show wpAny _ A.in1 (tryCatch (pyNext (.ref I)) _ >>= _) _ _ s
  refine wpAny_bind (wpAny_tryCatch (W.item (j + 1) s _ _ hlt hst λ v h' tk hP hst' hk' => ?_))
  have hS' := hk' S _ hSw hS
  show wpAny _ A.in1 (tryCatch (holding [v, v] (richCompare .Lt v vb >>= _)) _ >>= _) _ _ _
  refine wpAny_bind (wpAny_tryCatch (wpAny_holding (wpAny_bind (hcmp _ (j + 1) (argBest bt j) v vb _ _ _ hst' hP hPb ?_))))
  refine wpAny_bind (wpAny_holding (wpAny_truthy_bool ?_))
  refine wpAny_bind (wpAny_letGo (wpAny_pure ?_))
  cases hb : bt (j + 1) (argBest bt j) with
  | true =>
   simp only [if_true]
   refine wpAny_bind ?_
   refine wpAny_updateSeq hS' rfl (wpAny_bind (wpAny_letGo ?_))
   rw [hname]
   refine wpAny_pure ⟨plainId_quiet F.plain_min_loop _, ih (j + 1) _ v _ (by omega) hlt (W.frame _ _ _ hst' λ b hbf o e => ?_) (by simp only [argBest, hb, if_true]; exact hP) (Heap.get?_update_self _ hS' rfl)
    λ v' h'' tk'' hP' hk'' => ?_⟩
   ·exact (Heap.get?_update_other _ _ (λ h : S = b => hSf (by rw [h]; exact hbf))).trans e
   ·exact hR v' h'' tk'' hP' λ b o hbw hbS e => hk'' b o hbw hbS ((Heap.get?_update_other _ _ (Ne.symm hbS)).trans (hk' b o hbw e))
  | false =>
   simp only [Bool.false_eq_true, if_false]
   refine wpAny_bind (wpAny_letGo ?_)
   rw [hname]
   refine wpAny_pure ⟨plainId_quiet F.plain_min_loop _, ih (j + 1) _ vb c (by omega) hlt hst' (by simp only [argBest, hb, Bool.false_eq_true, if_false]; exact hPb) hS' λ v' h'' tk'' hP' hk'' => ?_⟩
   exact hR v' h'' tk'' hP' λ b o hbw hbS e => hk'' b o hbw hbS (hk' b o hbw e)
theorem q8q (W : Walks prog w A.in1 I fp wr n P St) (bt : Nat -> Nat -> Bool) (hcmp : z1Y prog w A.in1 P St bt) (S : Addr) (hSf : S ∉ fp) (hn : 0 < n) {s : Shared} {c : Nat} (hst : St 0 s.heap)
  (hS : s.heap.get? S = some { cls := .type "list", dict := none, data := .seq #[] c, slots := #[] })
  (hR : ∀ v h' tk, P (argBest bt (n - 1)) v -> (∀ b o, b ∉ wr -> b ≠ S -> s.heap.get? b = some o -> h'.get? b = some o) -> R (.ok (.ret v)) { s with heap := h', toks := tk }) :
  codeAny (model prog w) A (.builtin "min.loop" ⟨[.ref I, .none, .ref S], []⟩) R s := by
 have hSw : S ∉ wr := λ h => hSf (W.sub _ h)
 have hname : (toString "min" ++ toString ".loop" : String) = "min.loop" := by decide
 refine codeAny_builtin F.entry_min_loop ?_
 rw [Around.under_plainId F.plain_min_loop _]
 show wpAny _ A.in1 (seqItems? (.ref S) >>= _) _ _ s
 refine wpAny_bind (wpAny_seqItems hS rfl ?_)
 show wpAny _ A.in1 (tryCatch (pyNext (.ref I)) _ >>= _) _ _ s
 refine wpAny_bind (wpAny_tryCatch (W.item 0 s _ _ hn hst λ v h' tk hP hst' hk' => ?_))
 have hS' := hk' S _ hSw hS
 show wpAny _ A.in1 (updateSeq S (λ _ => #[v, v]) >>= _) _ _ _
 refine wpAny_bind ?_
 refine wpAny_updateSeq hS' rfl ?_
 rw [hname]
 refine wpAny_pure ⟨plainId_quiet F.plain_min_loop _, q9i W bt hcmp S hSf _ 0 _ v _ rfl hn (W.frame _ _ _ hst' λ b hbf o e => ?_) hP (Heap.get?_update_self _ hS' rfl) λ v' h'' tk'' hP' hk'' => ?_⟩
 ·exact (Heap.get?_update_other _ _ (λ h : S = b => hSf (by rw [h]; exact hbf))).trans e
 ·exact hR v' h'' tk'' hP' λ b o hbw hbS e => hk'' b o hbw hbS ((Heap.get?_update_other _ _ (Ne.symm hbS)).trans (hk' b o hbw e))
end
section
variable {prog : Program} {w : World} {A : Around} {E : Value -> Shared -> Prop} {s : Shared}
theorem q6Z {x : Value} {Q : Value -> Shared -> Prop}
  (h : wpAny (model prog w) A.in1 (pyIter x) (λ it s₂ => ∃ I fp wr n P St bt, it = .ref I /\ Walks prog w A.in1 I fp wr n P St /\ St 0 s₂.heap /\ (∀ b ∈ fp, b < s₂.heap.objs.size) /\ 0 < n /\ z1Y prog w A.in1 P St bt /\
   ∀ v h' tk, P (argBest bt (n - 1)) v -> (∀ b o, b ∉ wr -> s₂.heap.get? b = some o -> h'.get? b = some o) -> Q v { s₂ with heap := h', toks := tk }) E s) :
  wpAny (model prog w) A (call (.builtin "min") [x]) Q E s := by
 have hname : (toString "min" ++ toString ".loop" : String) = "min.loop" := by decide
 refine call_function_tree F.kind_min F.plain_min F.entry_min (F.args_min1 _) ?_
 show wpAny _ A.in1 (Builtin.Builtins.bindParams "min" ["key", "default"] 0 ⟨[], []⟩ >>= _) _ _ s
 refine wpAny_bind (wpAny_of_eq (show Builtin.Builtins.bindParams "min" ["key", "default"] 0 ⟨[], []⟩ = pure [none, none] from rfl) ?_)
 refine wpAny_bind (wpAny_pure ?_)
 refine wpAny_bind (wpAny_mono h (λ it s₂ h₂ => ?_) λ _ _ e => e)
 obtain ⟨I, fp, wr, n, P, St, bt, rfl, W, hst, hfp, hn, hcmp, hQ⟩ := h₂
 refine wpAny_bind (wpAny_newObj_type ?_)
 have hSf : s₂.heap.objs.size ∉ fp := λ hm => Nat.lt_irrefl _ (hfp _ hm)
 rw [hname]
 refine wpAny_pure ⟨plainId_quiet F.plain_min_loop _, q8q W bt hcmp s₂.heap.objs.size hSf hn (W.frame _ _ _ hst λ b _ o e => Heap.get?_push_of_some _ e) (Heap.get?_push_size _ rfl) λ v h' tk hP hk => ?_⟩
 exact hQ v h' tk hP λ b o hbw e => hk b o hbw (Nat.ne_of_lt (Heap.lt_size e)) (Heap.get?_push_of_some _ e)
theorem Walks.know {I : Addr} {fp wr ts : List Addr} {n : Nat} {P : Nat -> Value -> Prop} {St : Nat -> Heap -> Prop} (W : Walks prog w A I fp wr n P St) (K : Heap -> Prop) (hK : ∀ h h', K h -> (∀ b ∈ ts, ∀ o, h.get? b = some o -> h'.get? b = some o) -> K h') (hd : ∀ t ∈ ts, t ∉ wr) :
  Walks prog w A I (fp ++ ts) wr n P (λ i h => St i h /\ K h) where
 sub := λ b hb => List.mem_append_left _ (W.sub b hb)
 frame := λ i h h' st k => ⟨W.frame i h h' st.1 λ b hb => k b (List.mem_append_left _ hb), hK h h' st.2 λ b hb => k b (List.mem_append_right _ hb)⟩
 item := λ i s Q E hi st hQ => W.item i s Q E hi st.1 λ v h' tk hP hst hk => hQ v h' tk hP ⟨hst, hK _ _ st.2 λ b hb o e => hk b o (hd b hb) e⟩ hk
 done := λ s Q E st hQ => W.done s Q E st.1 hQ
 self := λ i s Q E st hQ => W.self i s Q E st.1 hQ
noncomputable def TrAt (h : Heap) (v : Value) (p : Int × Int × Int) : Prop := ∃ a o n t1 t2 t3, v = .ref a /\ h.get? a = some o /\ o.cls = .type "tuple" /\ o.data = .seq #[.int p.1 t1, .int p.2.1 t2, .int p.2.2 t3] n
theorem q8O (hA : A.units < cLine) {u v : Value} {p q : Int × Int × Int} {Q : Value -> Shared -> Prop} (hu : TrAt s.heap u p) (hv : TrAt s.heap v q) (h : Q (.bool (ltT p q)) s) : wpAny (model prog w) A (richCompare .Lt u v) Q E s := by
 obtain ⟨a, oa, na, t1, t2, t3, rfl, ea, ca, da⟩ := hu
 obtain ⟨b, ob, nb, u1, u2, u3, rfl, eb, cb, db⟩ := hv
 have Ta : s.TypeIs (.ref a) "tuple" := ⟨oa, ea, ca⟩
 have Tb : s.TypeIs (.ref b) "tuple" := ⟨ob, eb, cb⟩
 refine wpAny_richCompare_same_room (op := .Lt) Ta Tb F.slot_tuple_lt (wpAny_call_entry F.slot_tuple_lt Ta F.entry_tuple_lt ?_ (F.args_tuple_lt_2 _ _)) hA
 show wpAny _ _ (isInstance (.ref b) (.type "tuple") >>= _) _ _ s
 refine wpAny_bind (wpAny_isInstance Tb isSubtype_tuple_tuple ?_)
 simp only [Bool.not_true, Bool.false_eq_true, if_false]
 refine wpAny_bind (wpAny_tupleItemsOf ea da ?_)
 refine wpAny_bind (wpAny_tupleItemsOf eb db ?_)
 refine wpAny_bind ?_
 show wpAny _ _ (forIn [(Value.int p.1 t1, Value.int q.1 u1), (Value.int p.2.1 t2, Value.int q.2.1 u2), (Value.int p.2.2 t3, Value.int q.2.2 u3)] _ _) _ _ s
 unfold ltT at h
 rw [List.forIn_cons]
 refine wpAny_bind (wpAny_bind (wpAny_eqBool_int ?_))
 by_cases h1 : p.1 = q.1
 ·rw [show (p.1 == q.1) = true from beq_iff_eq.mpr h1]
  rw [show (p.1 == q.1) = true from beq_iff_eq.mpr h1, decide_eq_false (show ¬ p.1 < q.1 by omega), Bool.false_or, Bool.true_and] at h
  simp only [Bool.not_true, Bool.false_eq_true, if_false]
  refine wpAny_pure ?_
  dsimp only
  rw [List.forIn_cons]
  refine wpAny_bind (wpAny_bind (wpAny_eqBool_int ?_))
  by_cases h2 : p.2.1 = q.2.1
  ·rw [show (p.2.1 == q.2.1) = true from beq_iff_eq.mpr h2]
   rw [show (p.2.1 == q.2.1) = true from beq_iff_eq.mpr h2, decide_eq_false (show ¬ p.2.1 < q.2.1 by omega), Bool.false_or, Bool.true_and] at h
   simp only [Bool.not_true, Bool.false_eq_true, if_false]
   refine wpAny_pure ?_
   dsimp only
   rw [List.forIn_cons]
   refine wpAny_bind (wpAny_bind (wpAny_eqBool_int ?_))
   by_cases h3 : p.2.2 = q.2.2
   ·rw [show (p.2.2 == q.2.2) = true from beq_iff_eq.mpr h3]
    rw [decide_eq_false (show ¬ p.2.2 < q.2.2 by omega)] at h
    simp only [Bool.not_true, Bool.false_eq_true, if_false]
    refine wpAny_pure ?_
    dsimp only
    rw [List.forIn_nil]
    refine wpAny_pure ?_
    dsimp only
    refine wpAny_pure ⟨_, rfl, (λ e => nomatch e), ?_⟩
    exact h
   ·rw [show (p.2.2 == q.2.2) = false from beq_eq_false_iff_ne.mpr h3]
    simp only [Bool.not_false, if_true]
    refine wpAny_bind (wpAny_rule (wpAny_bind (show wpAny (model prog w) _ (compareOp .Lt _ _) _ _ _ from wpAny_lt_int (wpAny_bind (wpAny_pure (wpAny_pure ?_))))))
    dsimp only
    refine wpAny_pure ?_
    dsimp only
    exact wpAny_pure ⟨_, rfl, (λ e => nomatch e), h⟩
  ·rw [show (p.2.1 == q.2.1) = false from beq_eq_false_iff_ne.mpr h2]
   rw [show (p.2.1 == q.2.1) = false from beq_eq_false_iff_ne.mpr h2, Bool.false_and, Bool.or_false] at h
   simp only [Bool.not_false, if_true]
   refine wpAny_bind (wpAny_rule (wpAny_bind (show wpAny (model prog w) _ (compareOp .Lt _ _) _ _ _ from wpAny_lt_int (wpAny_bind (wpAny_pure (wpAny_pure ?_))))))
   dsimp only
   refine wpAny_pure ?_
   dsimp only
   exact wpAny_pure ⟨_, rfl, (λ e => nomatch e), h⟩
 ·rw [show (p.1 == q.1) = false from beq_eq_false_iff_ne.mpr h1]
  rw [show (p.1 == q.1) = false from beq_eq_false_iff_ne.mpr h1, Bool.false_and, Bool.or_false] at h
  simp only [Bool.not_false, if_true]
  refine wpAny_bind (wpAny_rule (wpAny_bind (show wpAny (model prog w) _ (compareOp .Lt _ _) _ _ _ from wpAny_lt_int (wpAny_bind (wpAny_pure (wpAny_pure ?_))))))
  dsimp only
  refine wpAny_pure ?_
  dsimp only
  exact wpAny_pure ⟨_, rfl, (λ e => nomatch e), h⟩
noncomputable def q2W (h : Heap) : List Value -> List (Int × Int × Int) -> Prop
 | [], [] => True
 | v :: vs, p :: ps => TrAt h v p /\ q2W h vs ps
 | _, _ => False
noncomputable def q4Q : List Value -> List Addr
 | [] => []
 | .ref a :: vs => a :: q4Q vs
 | _ :: vs => q4Q vs
theorem q2W.len {h : Heap} : ∀ {vs : List Value} {ps : List (Int × Int × Int)}, q2W h vs ps -> vs.length = ps.length
 | [], [], _ => rfl
 | _ :: _, _ :: _, x => by rw [List.length_cons, List.length_cons, x.2.len]
 | [], _ :: _, x => x.elim
 | _ :: _, [], x => x.elim
theorem q2W.keep {h h' : Heap} : ∀ {vs : List Value} {ps : List (Int × Int × Int)}, q2W h vs ps -> (∀ b ∈ q4Q vs, ∀ o, h.get? b = some o -> h'.get? b = some o) -> q2W h' vs ps
 | [], [], _, _ => trivial
 | _ :: _, _ :: _, x, k => by
  obtain ⟨⟨a, o, n, t1, t2, t3, rfl, e, c, d⟩, y⟩ := x
  exact ⟨⟨a, o, n, t1, t2, t3, rfl, k a (List.mem_cons_self ..) o e, c, d⟩, y.keep λ b hb => k b (List.mem_cons_of_mem _ hb)⟩
 | [], _ :: _, x, _ => x.elim
 | _ :: _, [], x, _ => x.elim
theorem q2W.get {h : Heap} : ∀ {vs : List Value} {ps : List (Int × Int × Int)} {i : Nat} {v : Value}, q2W h vs ps -> vs[i]? = some v -> TrAt h v (ps.getD i (0, 0, 0))
 | [], [], _, _, _, e => by simp at e
 | _ :: _, _ :: _, 0, _, x, e => by
  have : _ = _ := Option.some.inj e
  subst this
  exact x.1
 | _ :: _, _ :: _, i + 1, _, x, e => x.2.get (by simpa using e)
 | [], _ :: _, _, _, x, _ => x.elim
 | _ :: _, [], _, _, x, _ => x.elim
theorem q2W.lt {h : Heap} : ∀ {vs : List Value} {ps : List (Int × Int × Int)}, q2W h vs ps -> ∀ b ∈ q4Q vs, b < h.objs.size
 | [], [], _, _, hb => nomatch hb
 | _ :: _, _ :: _, x, b, hb => by
  obtain ⟨⟨a, o, n, t1, t2, t3, rfl, e, c, d⟩, y⟩ := x
  rcases List.mem_cons.mp hb with rfl | hb
  ·exact Heap.lt_size e
  ·exact y.lt b hb
 | [], _ :: _, x, _, _ => x.elim
 | _ :: _, [], x, _, _ => x.elim
theorem q4l (x : Int × Int × Int) : ∀ (m : Int × Int × Int) (l : List (Int × Int × Int)), q4K m (l ++ [x]) = if ltT x (q4K m l) then x else q4K m l
 | m, [] => rfl
 | m, y :: l => q4l x (if ltT y m then y else m) l
theorem q6C (p : Int × Int × Int) (r : List (Int × Int × Int)) : ∀ k, k <= r.length -> (p :: r).getD (argBest (λ i j => ltT ((p :: r).getD i (0, 0, 0)) ((p :: r).getD j (0, 0, 0))) k) (0, 0, 0) = q4K p (r.take k)
 | 0, _ => by rw [List.take_zero]; rfl
 | k + 1, h => by
  have q := q6C p r k (by omega)
  have e : r.take (k + 1) = r.take k ++ [r[k]] := by rw [List.take_append_getElem]
  have e2 : (p :: r).getD (k + 1) (0, 0, 0) = r[k] := by
   rw [List.getD_eq_getElem?_getD, List.getElem?_cons_succ, List.getElem?_eq_getElem (by omega)]
   rfl
  rw [e, q4l]
  unfold argBest
  rw [q, e2]
  cases ltT r[k] (q4K p (r.take k)) with
  | true => rw [if_pos rfl, if_pos rfl]; exact e2
  | false => rw [if_neg Bool.false_ne_true, if_neg Bool.false_ne_true]; exact q
theorem q5L {l : Addr} {vs : List Value} {p : Int × Int × Int} {r : List (Int × Int × Int)} {Q : Value -> Shared -> Prop} (hh : A.handled = none) (hA : A.units + 1 < cLine) (hl : s.heap.IsList l vs.toArray) (hp : q2W s.heap vs (p :: r))
  (h : ∀ i v h' tk, vs[i]? = some v -> (p :: r).getD i (0, 0, 0) = q4K p r -> i < (p :: r).length -> (∀ b o, s.heap.get? b = some o -> h'.get? b = some o) -> Q v { s with heap := h', toks := tk }) :
  wpAny (model prog w) A (call (.builtin "min") [.ref l]) Q E s := by
 have hlt : l < s.heap.objs.size := by obtain ⟨_, e, _⟩ := hl; exact Heap.lt_size e
 have hz := hp.len
 rw [List.length_cons] at hz
 refine q6Z (wpAny_pyIter_list hl ?_)
 refine ⟨_, _, _, _, _, _, λ i j => ltT ((p :: r).getD i (0, 0, 0)) ((p :: r).getD j (0, 0, 0)), rfl, Walks.know (ts := q4Q vs) (Walks.list (A := A.in1) hh s.heap.objs.size l (Nat.ne_of_lt hlt) vs.toArray) (λ h => q2W h vs (p :: r)) (λ h h' x k => x.keep k) (λ t ht z => ?_),
  ⟨⟨⟨_, Heap.get?_push_size _ rfl, rfl, rfl⟩, hl.push _⟩, hp.keep λ b hb o e => Heap.get?_push_of_some _ e⟩, λ b hb => ?_, by simp; omega, λ k i j vi vj s' Q' E' st hi hj q => ?_, λ v h' tk hP hk => ?_⟩
 ·have := hp.lt t ht
  rw [List.mem_singleton.mp z] at this
  exact Nat.lt_irrefl _ this
 ·show b < (s.heap.push _).objs.size
  rw [Heap.size_push]
  rcases List.mem_append.mp hb with hb | hb
  ·rcases List.mem_cons.mp hb with rfl | hb
   ·exact Nat.lt_succ_self _
   ·rcases List.mem_cons.mp hb with rfl | hb
    ·exact Nat.lt_succ_of_lt hlt
    ·cases hb
  ·exact Nat.lt_succ_of_lt (hp.lt b hb)
 ·have hi' : vs[i]? = some vi := by simpa using hi
  have hj' : vs[j]? = some vj := by simpa using hj
  exact q8O hA (st.2.get hi') (st.2.get hj') q
 ·have hsz : vs.toArray.size - 1 = r.length := by rw [List.size_toArray]; omega
  have hP' : vs[argBest (λ i j => ltT ((p :: r).getD i (0, 0, 0)) ((p :: r).getD j (0, 0, 0))) (vs.toArray.size - 1)]? = some v := by simpa using hP
  rw [hsz] at hP'
  have hb := q6C p r r.length (Nat.le_refl _)
  rw [List.take_length] at hb
  refine h _ v h' tk hP' hb ?_ λ b o e => hk b o (λ hm => ?_) (Heap.get?_push_of_some _ e)
  ·have := (List.getElem?_eq_some_iff.mp hP').1
   rw [List.length_cons]; omega
  ·rw [List.mem_singleton.mp hm] at e
   exact absurd (Heap.lt_size e) (Nat.lt_irrefl _)
end
end L2
end
section
namespace L2
open PySem PySem.Spec PyProof.Rows
variable {X : Cx}
noncomputable def TrsV (K : PySem.W.Frag) (H : Hp) : List V -> List (Int × Int × Int) -> Prop
 | [], [] => True
 | v :: vs, p :: ps => (∃ a, v = .ref a /\ SqT K H a [.int p.1, .int p.2.1, .int p.2.2]) /\ TrsV K H vs ps
 | _, _ => False
theorem z6q {x y z : V} {us : List Value} (h : Vals [x, y, z] us) : ∃ u v w, us = [u, v, w] /\ RelV x u /\ RelV y v /\ RelV z w := by
 cases h with
 | cons r t =>
  obtain ⟨v, w, rfl, r2, r3⟩ := q7i t
  exact ⟨_, v, w, rfl, r, r2, r3⟩
theorem TrsV.at {pins : List (Addr × Obj)} {σ : St} {H : Hp} {s : Shared} (I : Inv X pins σ H s) : ∀ {vs : List V} {ps : List (Int × Int × Int)} {its : List Value}, TrsV X.K H vs ps -> Vals vs its -> q2W s.heap its ps
 | [], [], its, _, r => by cases r; exact trivial
 | _ :: _, p :: ps, its, x, r => by
  obtain ⟨⟨a, rfl, h1⟩, h2⟩ := x
  cases its with
  | nil => cases r
  | cons u us =>
   cases r
   rename_i r1 r2
   cases r1
   obtain ⟨its2, rv, ⟨o, e1, e2, n, e3⟩, _⟩ := I.tuple h1
   obtain ⟨u1, u2, u3, rfl, ⟨t, rfl⟩, ⟨t', rfl⟩, ⟨t2, rfl⟩⟩ := z6q rv
   exact ⟨⟨a, o, n, t, t', t2, rfl, e1, e2, e3⟩, h2.at I r2⟩
 | [], _ :: _, _, x, _ => x.elim
 | _ :: _, [], _, x, _ => x.elim
theorem q8I : ∀ {xs : List V} {us : List Value} {i : Nat} {u : Value}, Vals xs us -> us[i]? = some u -> ∃ x, xs[i]? = some x /\ RelV x u
 | _, _, 0, _, .cons r _, e => by cases e; exact ⟨_, rfl, r⟩
 | _, _, i + 1, _, .cons _ t, e => by
  obtain ⟨x, h1, h2⟩ := q8I (i := i) t (by simpa using e)
  exact ⟨x, by simpa using h1, h2⟩
 | _, _, _, _, .nil, e => by simp at e
theorem q7Y (hc : X.calm = true) (hu : X.A.units + 1 < cLine) : q2l X (.builtin "min") (λ xs H Q => ∃ (a : Addr) (vs : List V) (p : Int × Int × Int) (r : List (Int × Int × Int)), xs = [.ref a] /\ SqL X.K H a vs /\ TrsV X.K H vs (p :: r) /\
  ∀ i v, vs[i]? = some v -> (p :: r).getD i (0, 0, 0) = q4K p r -> i < (p :: r).length -> Q v H) := by
 intro pins s σ H xs us Q I r h
 obtain ⟨a, vs, p, ps, rfl, hq, hp, q⟩ := h
 obtain ⟨u, rfl, r1⟩ := q7h r
 cases r1
 obtain ⟨its, rv, pl, _⟩ := I.list hq
 refine q5L (I.ok.hd hc) hu pl.isList (hp.at I rv) λ i v h' tk e1 e2 e3 k => ?_
 obtain ⟨x, f1, f2⟩ := q8I rv e1
 exact ⟨x, H, I.kept k, f2, q i x f1 e2 e3⟩
end L2
end
section
namespace L2
open PySem
structure Sg where
 N : List Str
 sc : List (Str × NameKind)
 fn : List Str
 bl : List Str
 cl : List Str
 top : Bool
 lp : Bool
noncomputable def q0I : Expr -> Option Str | .Name x _ => some x | _ => none
noncomputable def q1V : Expr -> Option Const | .Constant c _ _ => some c | _ => none
noncomputable def z2Q : Expr -> Option (Expr × Operator × Expr) | .BinOp a o b _ => some (a, o, b) | _ => none
noncomputable def asUn : Expr -> Option (UnaryOp × Expr) | .UnaryOp o a _ => some (o, a) | _ => none
noncomputable def z1b : Expr -> Option (Expr × List CmpOp × List Expr) | .Compare a o b _ => some (a, o, b) | _ => none
noncomputable def q6l : Expr -> Option (BoolOp × List Expr) | .BoolOp o es _ => some (o, es) | _ => none
noncomputable def q8N : Expr -> Option (List Expr) | .List es _ => some es | _ => none
noncomputable def q2j : Expr -> Option (List Expr) | .Tuple es _ _ => some es | _ => none
noncomputable def q4o : Expr -> Option (Expr × Expr) | .Subscript a b _ => some (a, b) | _ => none
noncomputable def q3N : Expr -> Option (Option Expr × Option Expr × Option Expr) | .Slice a b c _ => some (a, b, c) | _ => none
noncomputable def q1o : Expr -> Option (Expr × List Expr × List Keyword × Pos) | .Call f as ks p => some (f, as, ks, p) | _ => none
noncomputable def q3X : Expr -> Option (Expr × Str × Pos) | .Attribute a n p => some (a, n, p) | _ => none
noncomputable def q8K : Expr -> Option (Expr × List Comprehension × Scope) | .ListComp e gs sc _ => some (e, gs, sc) | _ => none
noncomputable def z1D : Expr -> Option (Expr × Expr) | .Dict [some k] [v] _ => some (k, v) | _ => none
noncomputable def q0k : Expr -> Bool | .Starred _ _ => true | _ => false
noncomputable def q1S : Expr -> Bool | .Slice _ _ _ _ => true | _ => false
noncomputable def q3f : Expr -> Bool | .Set _ _ _ => true | _ => false
noncomputable def q4g : Expr -> Bool | .ListComp _ _ _ _ => true | .SetComp _ _ _ _ => true | .DictComp _ _ _ _ _ => true | _ => false
theorem q0r {e : Expr} {x : Str} (h : q0I e = some x) : ∃ p, e = .Name x p := by
 cases e <;> simp [q0I] at h; subst h; exact ⟨_, rfl⟩
theorem q2P {e : Expr} {x : Const} (h : q1V e = some x) : ∃ k p, e = .Constant x k p := by
 cases e <;> simp [q1V] at h; subst h; exact ⟨_, _, rfl⟩
theorem q6s {e a b : Expr} {o : Operator} (h : z2Q e = some (a, o, b)) : ∃ p, e = .BinOp a o b p := by
 cases e <;> simp [z2Q] at h; obtain ⟨rfl, rfl, rfl⟩ := h; exact ⟨_, rfl⟩
theorem q4J {e a : Expr} {o : UnaryOp} (h : asUn e = some (o, a)) : ∃ p, e = .UnaryOp o a p := by
 cases e <;> simp [asUn] at h; obtain ⟨rfl, rfl⟩ := h; exact ⟨_, rfl⟩
theorem q6d {e a : Expr} {os : List CmpOp} {bs : List Expr} (h : z1b e = some (a, os, bs)) : ∃ p, e = .Compare a os bs p := by
 cases e <;> simp [z1b] at h; obtain ⟨rfl, rfl, rfl⟩ := h; exact ⟨_, rfl⟩
theorem q2K {e : Expr} {o : BoolOp} {es : List Expr} (h : q6l e = some (o, es)) : ∃ p, e = .BoolOp o es p := by
 cases e <;> simp [q6l] at h; obtain ⟨rfl, rfl⟩ := h; exact ⟨_, rfl⟩
theorem q4Y {e : Expr} {es : List Expr} (h : q8N e = some es) : ∃ p, e = .List es p := by
 cases e <;> simp [q8N] at h; subst h; exact ⟨_, rfl⟩
theorem q1O {e : Expr} {es : List Expr} (h : q2j e = some es) : ∃ k p, e = .Tuple es k p := by
 cases e <;> simp [q2j] at h; subst h; exact ⟨_, _, rfl⟩
theorem q6j {e a b : Expr} (h : z1D e = some (a, b)) : ∃ p, e = .Dict [some a] [b] p := by
 unfold z1D at h
 split at h
 ·cases h; exact ⟨_, rfl⟩
 ·cases h
theorem q0T {e a b : Expr} (h : q4o e = some (a, b)) : ∃ p, e = .Subscript a b p := by
 cases e <;> simp [q4o] at h; obtain ⟨rfl, rfl⟩ := h; exact ⟨_, rfl⟩
theorem q2V {e : Expr} {a b c : Option Expr} (h : q3N e = some (a, b, c)) : ∃ p, e = .Slice a b c p := by
 cases e <;> simp [q3N] at h; obtain ⟨rfl, rfl, rfl⟩ := h; exact ⟨_, rfl⟩
theorem q0B {e f : Expr} {as : List Expr} {ks : List Keyword} {p : Pos} (h : q1o e = some (f, as, ks, p)) : e = .Call f as ks p := by
 cases e <;> simp [q1o] at h; obtain ⟨rfl, rfl, rfl, rfl⟩ := h; rfl
theorem q3w {e a : Expr} {n : Str} {p : Pos} (h : q3X e = some (a, n, p)) : e = .Attribute a n p := by
 cases e <;> simp [q3X] at h; obtain ⟨rfl, rfl, rfl⟩ := h; rfl
theorem q7T {e x : Expr} {gs : List Comprehension} {sc : Scope} (h : q8K e = some (x, gs, sc)) : ∃ p, e = .ListComp x gs sc p := by
 cases e <;> simp [q8K] at h; obtain ⟨rfl, rfl, rfl⟩ := h; exact ⟨_, rfl⟩
noncomputable def visB (sg : Sg) (x : Str) : Bool := sg.sc.lookup x == some .local || sg.sc.lookup x == some .cell || sg.sc.lookup x == some .free
noncomputable def gloB (sg : Sg) (x : Str) : Bool := sg.sc.lookup x == some .globalImplicit
noncomputable def locB (sg : Sg) (x : Str) : Bool := sg.sc.lookup x == some .local || sg.sc.lookup x == some .cell
noncomputable def q3P (sg : Sg) (i : Nat) (x : Str) : Bool := sg.N[i]? == some x && visB sg x && x != "__debug__" && x != "__classdict__"
noncomputable def bltB (sg : Sg) (x : Str) (f : Expr) : Bool := q0I f == some x && gloB sg x && sg.bl.contains x
noncomputable def z5c : Bi -> Str
 | .len => "len" | .abs => "abs" | .min => "min" | .max => "max" | .sum => "sum" | .any => "any" | .all => "all" | .sorted => "sorted" | .sset => "sorted" | .lset => "len"
 | .int => "int" | .list => "list" | .tuple => "tuple" | .str => "str" | .lrng => "list" | .lsti => "list"
structure CParts where
 elt : Expr
 tg : Expr
 it : Expr
 ifs : List Expr
 sc : Scope
noncomputable def q4d (e : Expr) : Option CParts := match q8K e with
 | some (elt, [⟨tg, it, ifs, a⟩], sc) => if a = 0 then some ⟨elt, tg, it, ifs, sc⟩ else none
 | _ => none
theorem q3G {e : Expr} {c : CParts} (h : q4d e = some c) : ∃ p, e = .ListComp c.elt [⟨c.tg, c.it, c.ifs, 0⟩] c.sc p := by
 unfold q4d at h
 split at h
 ·rename_i elt tg it ifs a sc q
  split at h
  ·rename_i ha
   cases h
   subst ha
   exact q7T q
  ·cases h
 ·cases h
noncomputable def q1f (sg : Sg) (tn : List Str) (fr : List (Option Nat)) : List Str := tn ++ (fr.drop tn.length).map λ o => match o with | some i => sg.N.getD i "" | none => ""
noncomputable def q7G : Tg -> Expr -> Option (List Str)
 | .one _, e => (q0I e).map λ x => [x]
 | .many is, e => match q2j e with
  | some es => if es.length = is.length then es.mapM q0I else none
  | none => none
noncomputable def tgOk (sg : Sg) : Tg -> Expr -> Bool
 | .one i, e => match q0I e with
  | some x => sg.N[i]? == some x && locB sg x
  | none => false
 | .many is, e => match q2j e with
  | some es => es.length == is.length && 2 <= es.length && (is.zip es).all λ p => match q0I p.2 with
   | some x => sg.N[p.1]? == some x && locB sg x
   | none => false
  | none => false
noncomputable def q3o : List Str -> Bool
 | [] => true
 | x :: r => !r.contains x && q3o r
noncomputable def q2s : Tg -> List Nat
 | .one i => [i]
 | .many is => is
noncomputable def q2v (sg : Sg) (N' : List Str) (fr : List (Option Nat)) (sc : Scope) (tg : Tg) : Bool := (q2s tg).all (λ i => fr[i]? == some none) &&
 sc.kind == .function && q3o N' && q3o (sc.names.map (·.1)) && fr.length == N'.length &&
 (fr.zip N').all (λ p => match p.1 with | some i => sg.N[i]? == some p.2 && sc.names.contains (p.2, .free) | none => true) &&
 sc.names.all λ y => if y.2 == .free then sg.sc.lookup y.1 == some .cell || sg.sc.lookup y.1 == some .free else true
noncomputable def q7u : ME -> Bool
 | .comp _ _ _ _ => true
 | .compi _ _ _ _ _ => true
 | _ => false
noncomputable def isZp : ME -> Bool
 | .zp _ _ => true
 | .enu _ => true
 | .itm _ => true
 | _ => false
mutual
noncomputable def corE (sg : Sg) (w : Bool) : ME -> Expr -> Bool
 | .var i, e => match q0I e with | some x => q3P sg i x | none => false
 | .int i, e => q1V e == some (.int i)
 | .bl i, e => q1V e == some (.bool i)
 | .str x, e => q1V e == some (.str x) && decide (x.length <= 1000)
 | .non, e => q1V e == some .none
 | .glb x, e => q0I e == some x && gloB sg x && x != "__debug__"
 | .bin op a b, e => match z2Q e with | some (ea, o, eb) => o == op && corE sg false a ea && corE sg false b eb | none => false
 | .neg a, e => match asUn e with | some (o, ea) => o == .USub && corE sg false a ea | none => false
 | .not a, e => match asUn e with | some (o, ea) => o == .Not && corE sg false a ea | none => false
 | .cmp op a b, e => match z1b e with | some (ea, [o], [eb]) => o == op && corE sg false a ea && corE sg false b eb && !q3f eb | _ => false
 | .and ms, e => match q6l e with | some (o, es) => o == .And && q0R sg ms es | none => false
 | .or ms, e => match q6l e with | some (o, es) => o == .Or && q0R sg ms es | none => false
 | .lst ms, e => match q8N e with | some es => q0R sg ms es | none => false
 | .tup ms, e => match q2j e with | some es => q0R sg ms es | none => false
 | .dc0, e => match e with | .Dict [] [] _ => true | _ => false
 | .dct i a, e => match z1D e with
  | some (ek, ev) => q1V ek == some (.int i) && corE sg false a ev
  | none => false
 | .ix a b, e => match q4o e with | some (ea, eb) => corE sg false a ea && corE sg false b eb && !q1S eb | none => false
 | .sl a lo hi, e => match q4o e with
  | some (ea, es) => (match q3N es with | some (some el, some eh, none) => corE sg false a ea && corE sg false lo el && corE sg false hi eh | _ => false)
  | none => false
 | .slf a lo, e => match q4o e with
  | some (ea, es) => (match q3N es with | some (some el, none, none) => corE sg false a ea && corE sg false lo el | _ => false)
  | none => false
 | .slt a hi, e => match q4o e with
  | some (ea, es) => (match q3N es with | some (none, some eh, none) => corE sg false a ea && corE sg false hi eh | _ => false)
  | none => false
 | .call f ms, e => match q1o e with
  | some (ef, es, [], _) => (match q0I ef with | some x => sg.fn[f]? == some x && gloB sg x && x != "__debug__" | none => false) && !es.isEmpty && q0R sg ms es
  | _ => false
 | .bi f ms, e => match q1o e with
  | some (ef, es, [], _) => bltB sg (z5c f) ef && !es.isEmpty && (match f with
   | .sset | .lset => (match es with
    | [e1] => (match q1o e1 with
     | some (ef', es', [], _) => bltB sg "set" ef' && es'.length == 1 && q0R sg ms es'
     | _ => false)
    | _ => false)
   | .lrng => (match es with
    | [e1] => (match q1o e1 with
     | some (ef', es', [], _) => bltB sg "range" ef' && es'.length == 1 && q0R sg ms es'
     | _ => false)
    | _ => false)
   | _ => q0R sg ms es)
  | _ => false
 | .isi a ts, e => match q1o e with
  | some (ef, [ea, et], [], _) => bltB sg "isinstance" ef && corE sg false a ea && !q0k ea && !q0k et && (match ts with
   | [t] => q0I et == some t && gloB sg t && sg.bl.contains t && q0Z.contains t
   | [t, u] => (match q2j et with
    | some [e1, e2] => (q0I e1 == some t && gloB sg t && sg.bl.contains t && q0Z.contains t) && (q0I e2 == some u && gloB sg u && sg.bl.contains u && q0Z.contains u)
    | _ => false)
   | _ => false)
  | _ => false
 | .comp elt tg it fr, e => match q4d e with
  | some c => c.ifs.isEmpty && (corE sg true it c.it && (!isZp it || (q2j c.tg).isSome)) && !q3f c.it && (match q7G tg c.tg with
   | some tn => q2v sg (q1f sg tn fr) fr c.sc tg && tgOk ⟨q1f sg tn fr, c.sc.names, sg.fn, sg.bl, sg.cl, false, true⟩ tg c.tg && corE ⟨q1f sg tn fr, c.sc.names, sg.fn, sg.bl, sg.cl, false, true⟩ false elt c.elt
   | none => false)
  | none => false
 | .compi elt tg it cd fr, e => match q4d e with
  | some c => (corE sg true it c.it && (!isZp it || (q2j c.tg).isSome)) && !q3f c.it && (match q7G tg c.tg, c.ifs with
   | some tn, [ec] => q2v sg (q1f sg tn fr) fr c.sc tg && tgOk ⟨q1f sg tn fr, c.sc.names, sg.fn, sg.bl, sg.cl, false, true⟩ tg c.tg && corE ⟨q1f sg tn fr, c.sc.names, sg.fn, sg.bl, sg.cl, false, true⟩ false elt c.elt && corE ⟨q1f sg tn fr, c.sc.names, sg.fn, sg.bl, sg.cl, false, true⟩ false cd ec
   | _, _ => false)
  | none => false
 | .rng ms, e => w && (match q1o e with
  | some (ef, es, [], _) => bltB sg "range" ef && q0R sg ms es && decide (es.length <= 3)
  | _ => false)
 | .zp a b, e => w && (match q1o e with
  | some (ef, [ea, eb], [], _) => bltB sg "zip" ef && corE sg false a ea && corE sg false b eb && !q0k ea && !q0k eb
  | _ => false)
 | .enu a, e => w && (match q1o e with
  | some (ef, [ea], [], _) => bltB sg "enumerate" ef && corE sg false a ea && !q0k ea
  | _ => false)
 | .itm a, e => w && (match q1o e with
  | some (ef, [], [], pos) => (match q3X ef with
   | some (o, n, apos) => n == "items" && corE sg false a o && apos.endLine == pos.line && (q0I o).isSome
   | none => false)
  | _ => false)
 | .dix a k, e => match q4o e with | some (ea, eb) => corE sg false a ea && corE sg false k eb && !q1S eb | none => false
 | .dgt i k d, e => match q1o e with
  | some (ef, [ek, ed], [], pos) => (match q3X ef with
   | some (o, n, apos) => n == "get" && (match q0I o with | some x => q3P sg i x | none => false) && corE sg false k ek && corE sg false d ed && !q0k ek && !q0k ed && apos.endLine == pos.line
   | none => false)
  | _ => false
noncomputable def q0R (sg : Sg) : List ME -> List Expr -> Bool
 | [], [] => true
 | m :: ms, e :: es => corE sg false m e && !q0k e && q0R sg ms es
 | _, _ => false
end
noncomputable def q0U : Str := "_law_hung"
noncomputable def hunB (sg : Sg) (i : Nat) (v : Expr) : Option Expr := match q1o v with
 | some (ef, [ea, eo], [], _) => (match q0I ef, q0I eo with
  | some f, some x => if f == q0U && gloB sg f && q3P sg i x && !q0k ea then some ea else none
  | _, _ => none)
 | _ => none
mutual
noncomputable def corS (sg : Sg) : MS -> Stmt -> Bool
 | .set i _ e, s => match s with
  | .Assign [t] v pos => (match t with
   | .Name x pt => sg.N[i]? == some x && locB sg x && corE sg false e v && (!q4g v || q7u e)
   | _ => false)
  | _ => false
 | .app i e, s => match s with
  | .Expr v _ => (match q1o v with
   | some (ef, [ea], [], pos) => (match q3X ef with
    | some (o, n, apos) => n == "append" && (match q0I o with | some x => q3P sg i x | none => false) && corE sg false e ea && !q0k ea && apos.endLine == pos.line
    | none => false)
   | _ => false)
  | _ => false
 | .seti i k e, s => match s with
  | .Assign [t] v _ => (match q4o t with
   | some (o, ek) => (match q0I o with | some x => q3P sg i x | none => false) && corE sg false k ek && !q1S ek && corE sg false e v
   | none => false)
  | _ => false
 | .ret e, s => match s with
  | .Return (some v) _ => corE sg false e v
  | _ => false
 | .iff c a b, s => match s with
  | .If ec ea eb _ => corE sg false c ec && q2y sg a ea && q2y sg b eb
  | _ => false
 | .fo tg it body, s => match s with
  | .For t i b [] _ => sg.lp && tgOk sg tg t && (corE sg true it i && (!isZp it || (q2j t).isSome)) && !q3f i && q2y sg body b
  | _ => false
 | .wh c body, s => match s with
  | .While t b [] _ => sg.lp && corE sg false c t && q2y sg body b
  | _ => false
 | .sed i, s => match s with
  | .Assign [t] v _ => (match q0I t with
   | some x => (match v with | .Dict [] [] _ => sg.N[i]? == some x && locB sg x | _ => false)
   | none => false)
  | _ => false
 | .dput i k e, s => match s with
  | .Assign [t] v _ => (match q4o t with
   | some (o, ek) => (match q0I o with | some x => q3P sg i x | none => false) && corE sg false k ek && !q1S ek && corE sg false e v && !q4g v
   | none => false)
  | _ => false
 | .retd i, s => match s with
  | .Return (some v) _ => (match q0I v with | some x => q3P sg i x | none => false)
  | _ => false
 | .frz _, _ => false
noncomputable def q2y (sg : Sg) : List MS -> List Stmt -> Bool
 | [], [] => true
 | .frz _ :: ms, ss => q2y sg ms ss
 | m :: ms, s :: ss => corS sg m s && q2y sg ms ss
 | _, _ => false
end
end L2
end
section
namespace L2
open PySem PySem.Spec PyProof.Rows
structure Dm where
 K : PySem.W.Frag
 mg : Str -> Option Value
noncomputable abbrev Cx.D (X : Cx) : Dm := ⟨X.K, X.mg⟩
noncomputable def SqS (K : PySem.W.Frag) (H : Hp) (a : Addr) (xs : List V) : Prop := (∃ o, H a = some (.frz o (.lst xs))) \/
 ∃ (o : Obj) (its : Array Value) (n : Nat), K.lookup a = some o /\ o.cls = .type "list" /\ o.dict = none /\ o.data = .seq its n /\ its.size <= sizeLine /\ Vals xs its.toList
theorem SqS.sq {K : PySem.W.Frag} {H : Hp} {a : Addr} {xs : List V} (h : SqS K H a xs) : SqL K H a xs := by
 rcases h with h | h
 ·exact .inl (.inr h)
 ·exact .inr h
theorem SqS.of {K : PySem.W.Frag} {H : Hp} {a : Addr} {xs : List V} (hO : Only H) (h : SqL K H a xs) : SqS K H a xs := by
 rcases h with (h | h) | h
 ·rcases hO a with z | ⟨o, ys, z⟩
  ·rw [h] at z; cases z
  ·rw [h] at z; cases z
 ·exact .inl h
 ·exact .inr h
theorem Same.sqs {K : PySem.W.Frag} {H H' : Hp} {a : Addr} {xs : List V} (e : Same H H') (h : SqS K H a xs) : SqS K H' a xs := by
 rcases h with ⟨o, h⟩ | h
 ·exact .inl ⟨o, e _ _ h⟩
 ·exact .inr h
noncomputable def dKey : Key -> DKey
 | .inl i => .i i
 | .inr x => .s x
noncomputable def mutO : HO -> Bool
 | .lst _ => true
 | .dK _ => true
 | _ => false
mutual
noncomputable def Rep (D : Dm) (H : Hp) : DV -> V -> Prop
 | .non, v => v = .non
 | .bl b, v => v = .bl b
 | .int i, v => v = .int i
 | .str x, v => v = .str x /\ x.length <= sizeLine
 | .tup ds, v => ∃ a xs, v = .ref a /\ SqT D.K H a xs /\ RepL D H ds xs
 | .lst ds, v => ∃ a xs, v = .ref a /\ H a = some (.lst xs) /\ RepL D H ds xs
 | .dct ks vs, v => ∃ a o kvs, v = .ref a /\ H a = some (.frz o (.dK kvs)) /\ kvs.map (λ p => dKey p.1) = ks /\ RepL D H vs (kvs.map (·.2))
 | .exc c, v => ∃ a C, v = .ref a /\ D.mg c = some C /\ H a = some (excO a C)
 | .fn x, v => ∃ f, v = .ref f /\ D.mg x = some (.ref f)
 | .scr ns, v => ∃ a, v = .ref a /\ SqS D.K H a (ns.map V.int)
noncomputable def RepL (D : Dm) (H : Hp) : List DV -> List V -> Prop
 | [], xs => xs = []
 | d :: ds, xs => ∃ v vs, xs = v :: vs /\ Rep D H d v /\ RepL D H ds vs
end
theorem Same.tseq {K : PySem.W.Frag} {H H' : Hp} {a : Addr} {xs : List V} (e : Same H H') (h : SqT K H a xs) : SqT K H' a xs := by
 rcases h with (h | ⟨o, h⟩) | h
 ·exact .inl (.inl (e _ _ h))
 ·exact .inl (.inr ⟨o, e _ _ h⟩)
 ·exact .inr h
mutual
theorem Rep.mono {D : Dm} {H H' : Hp} (e : Same H H') : ∀ {d : DV} {v : V}, Rep D H d v -> Rep D H' d v
 | .non, _, h => by unfold Rep at h ⊢; exact h
 | .bl _, _, h => by unfold Rep at h ⊢; exact h
 | .int _, _, h => by unfold Rep at h ⊢; exact h
 | .str _, _, h => by unfold Rep at h ⊢; exact h
 | .tup ds, _, h => by
  unfold Rep at h ⊢
  obtain ⟨a, xs, e1, e2, e3⟩ := h
  exact ⟨a, xs, e1, e.tseq e2, RepL.mono e e3⟩
 | .lst ds, _, h => by
  unfold Rep at h ⊢
  obtain ⟨a, xs, e1, e2, e3⟩ := h
  exact ⟨a, xs, e1, e _ _ e2, RepL.mono e e3⟩
 | .dct _ _, _, h => by
  unfold Rep at h ⊢
  obtain ⟨a, o, kvs, e1, e2, e3, e4⟩ := h
  exact ⟨a, o, kvs, e1, e _ _ e2, e3, RepL.mono e e4⟩
 | .exc C, _, h => by
  unfold Rep at h ⊢
  obtain ⟨a, C, e1, e2, e3⟩ := h
  exact ⟨a, C, e1, e2, e _ _ e3⟩
 | .fn _, _, h => by unfold Rep at h ⊢; exact h
 | .scr _, _, h => by
  unfold Rep at h ⊢
  obtain ⟨a, e1, e2⟩ := h
  exact ⟨a, e1, e.sqs e2⟩
theorem RepL.mono {D : Dm} {H H' : Hp} (e : Same H H') : ∀ {ds : List DV} {xs : List V}, RepL D H ds xs -> RepL D H' ds xs
 | [], _, h => by unfold RepL at h ⊢; exact h
 | d :: ds, _, h => by
  unfold RepL at h ⊢
  obtain ⟨v, vs, e1, e2, e3⟩ := h
  exact ⟨v, vs, e1, Rep.mono e e2, RepL.mono e e3⟩
end
section
variable {D : Dm} {H H' : Hp} {v : V} {xs ys : List V} {ds es : List DV} {d : DV}
theorem q0A {i : Int} : Rep D H (.int i) v ↔ v = .int i := by unfold Rep; exact Iff.rfl
theorem q3p {i : Bool} : Rep D H (.bl i) v ↔ v = .bl i := by unfold Rep; exact Iff.rfl
theorem q2a {i : Str} : Rep D H (.str i) v ↔ (v = .str i /\ i.length <= sizeLine) := by unfold Rep; exact Iff.rfl
theorem q3O : Rep D H .non v ↔ v = .non := by unfold Rep; exact Iff.rfl
theorem q0z : Rep D H (.tup ds) v ↔ ∃ a xs, v = .ref a /\ SqT D.K H a xs /\ RepL D H ds xs := by unfold Rep; exact Iff.rfl
theorem q0u : Rep D H (.lst ds) v ↔ ∃ a xs, v = .ref a /\ H a = some (.lst xs) /\ RepL D H ds xs := by unfold Rep; exact Iff.rfl
theorem q1G {ns : List Int} : Rep D H (.scr ns) v ↔ ∃ a, v = .ref a /\ SqS D.K H a (ns.map V.int) := by unfold Rep; exact Iff.rfl
theorem q2r {ks : List DKey} {vs : List DV} : Rep D H (.dct ks vs) v ↔ ∃ a o kvs, v = .ref a /\ H a = some (.frz o (.dK kvs)) /\ kvs.map (λ p => dKey p.1) = ks /\ RepL D H vs (kvs.map (·.2)) := by unfold Rep; exact Iff.rfl
theorem q0q : RepL D H [] xs ↔ xs = [] := by unfold RepL; exact Iff.rfl
theorem q0e : RepL D H (d :: ds) xs ↔ ∃ v vs, xs = v :: vs /\ Rep D H d v /\ RepL D H ds vs := by
 constructor
 ·intro h; unfold RepL at h; exact h
 ·intro h; unfold RepL; exact h
end
theorem RepL.length {D : Dm} {H : Hp} : ∀ {ds : List DV} {xs : List V}, RepL D H ds xs -> xs.length = ds.length
 | [], _, h => by rw [q0q.mp h]; rfl
 | d :: ds, _, h => by
  obtain ⟨v, vs, e1, _, e3⟩ := q0e.mp h
  rw [e1, List.length_cons, List.length_cons, RepL.length e3]
theorem RepL.get {D : Dm} {H : Hp} : ∀ {ds : List DV} {xs : List V} {i : Nat} {d : DV}, RepL D H ds xs -> ds[i]? = some d -> ∃ v, xs[i]? = some v /\ Rep D H d v
 | [], _, _, _, _, e => by simp at e
 | d :: ds, _, i, d', h, e => by
  obtain ⟨v, vs, e1, e2, e3⟩ := q0e.mp h
  subst e1
  cases i with
  | zero => simp at e; subst e; exact ⟨v, rfl, e2⟩
  | succ i => simpa using RepL.get (i := i) e3 (by simpa using e)
theorem RepL.append {D : Dm} {H : Hp} : ∀ {ds es : List DV} {xs ys : List V}, RepL D H ds xs -> RepL D H es ys -> RepL D H (ds ++ es) (xs ++ ys)
 | [], _, _, _, h, h' => by rw [q0q.mp h]; exact h'
 | d :: ds, _, _, _, h, h' => by
  obtain ⟨v, vs, e1, e2, e3⟩ := q0e.mp h
  subst e1
  exact q0e.mpr ⟨v, _, rfl, e2, RepL.append e3 h'⟩
theorem RepL.one {D : Dm} {H : Hp} {d : DV} {v : V} (h : Rep D H d v) : RepL D H [d] [v] := q0e.mpr ⟨v, [], rfl, h, q0q.mpr rfl⟩
theorem RepL.take {D : Dm} {H : Hp} : ∀ {ds : List DV} {xs : List V} (n : Nat), RepL D H ds xs -> RepL D H (ds.take n) (xs.take n)
 | _, _, 0, _ => q0q.mpr rfl
 | [], _, n + 1, h => by rw [q0q.mp h]; exact q0q.mpr rfl
 | d :: ds, _, n + 1, h => by
  obtain ⟨v, vs, e1, e2, e3⟩ := q0e.mp h
  subst e1
  exact q0e.mpr ⟨v, _, rfl, e2, RepL.take n e3⟩
theorem RepL.drop {D : Dm} {H : Hp} : ∀ {ds : List DV} {xs : List V} (n : Nat), RepL D H ds xs -> RepL D H (ds.drop n) (xs.drop n)
 | _, _, 0, h => h
 | [], _, n + 1, h => by rw [q0q.mp h]; exact q0q.mpr rfl
 | d :: ds, _, n + 1, h => by
  obtain ⟨v, vs, e1, e2, e3⟩ := q0e.mp h
  subst e1
  exact RepL.drop n e3
theorem RepL.set {D : Dm} {H : Hp} {d : DV} {v : V} (q : Rep D H d v) : ∀ {ds : List DV} {xs : List V} (n : Nat), RepL D H ds xs -> RepL D H (ds.set n d) (xs.set n v)
 | [], _, n, h => by rw [q0q.mp h]; exact q0q.mpr rfl
 | _ :: ds, _, 0, h => by
  obtain ⟨v, vs, e1, e2, e3⟩ := q0e.mp h
  subst e1
  exact q0e.mpr ⟨_, _, rfl, q, e3⟩
 | _ :: ds, _, n + 1, h => by
  obtain ⟨v, vs, e1, e2, e3⟩ := q0e.mp h
  subst e1
  exact q0e.mpr ⟨_, _, rfl, e2, RepL.set q n e3⟩
theorem RepL.rep {D : Dm} {H : Hp} {ds : List DV} {xs : List V} (h : RepL D H ds xs) : ∀ k : Nat, RepL D H (List.replicate k ds).flatten (List.replicate k xs).flatten
 | 0 => q0q.mpr rfl
 | k + 1 => by
  rw [List.replicate_succ, List.replicate_succ, List.flatten_cons, List.flatten_cons]
  exact h.append (RepL.rep h k)
theorem q1n {D : Dm} {H : Hp} : ∀ (ns : List Int), RepL D H (ns.map DV.int) (ns.map V.int)
 | [] => q0q.mpr rfl
 | n :: ns => q0e.mpr ⟨_, _, rfl, q0A.mpr rfl, q1n ns⟩
noncomputable def wo (O : List Addr) (H : Hp) : Hp := λ b => if b ∈ O then none else H b
theorem z4N {O : List Addr} {H : Hp} {b : Addr} (h : b ∈ O) : wo O H b = none := if_pos h
theorem q0n {O : List Addr} {H : Hp} {b : Addr} (h : b ∉ O) : wo O H b = H b := if_neg h
theorem q0J {O : List Addr} {H : Hp} {b : Addr} {o : HO} (h : wo O H b = some o) : b ∉ O /\ H b = some o := by
 by_cases hb : b ∈ O
 ·rw [z4N hb] at h; cases h
 ·rw [q0n hb] at h; exact ⟨hb, h⟩
theorem Same.wo {O : List Addr} {H H' : Hp} (e : Same H H') : Same (wo O H) (wo O H') := λ b o h => by
 obtain ⟨hb, h⟩ := q0J h
 rw [q0n hb]; exact e b o h
theorem q0F {O : List Addr} {H : Hp} : Same (L2.wo O H) H := λ b o h => (q0J h).2
theorem q0x {O O' : List Addr} {H : Hp} (h : ∀ b ∈ O', b ∈ O) : Same (L2.wo O H) (L2.wo O' H) := λ b o e => by
 obtain ⟨hb, e⟩ := q0J e
 rw [q0n λ z => hb (h b z)]; exact e
theorem q0h {H : Hp} {p : Addr} {o : HO} (h : H p = none) : Same H (upd H p o) := λ b u q => by rw [q0j (q0o q h)]; exact q
structure Hid (O W : List Addr) (H0 H : Hp) : Prop where
 ot : ∀ a ∈ O ++ W, H0 a ≠ none
 same : Same H0 H
 wl : ∀ a ∈ W, ∃ o, H0 a = some o /\ mutO o = true
 dj : ∀ a ∈ W, a ∉ O
theorem Hid.mono {O W : List Addr} {H0 H H' : Hp} (h : Hid O W H0 H) (e : Same H H') : Hid O W H0 H' := ⟨h.ot, h.same.trans e, h.wl, h.dj⟩
theorem Hid.newOut {O W : List Addr} {H0 H : Hp} (h : Hid O W H0 H) {p : Addr} (hp : H p = none) : p ∉ O ++ W := λ z => h.ot p z (h.same.free hp)
mutual
theorem Rep.immut {D : Dm} {O W : List Addr} {H : Hp} (hw : ∀ a ∈ W, ∃ o, H a = some o /\ mutO o = true) : ∀ {d : DV} {v : V}, d.immut = true -> Rep D (L2.wo O H) d v -> Rep D (L2.wo (O ++ W) H) d v
 | .non, _, _, h => by unfold Rep at h ⊢; exact h
 | .bl _, _, _, h => by unfold Rep at h ⊢; exact h
 | .int _, _, _, h => by unfold Rep at h ⊢; exact h
 | .str _, _, _, h => by unfold Rep at h ⊢; exact h
 | .tup ds, _, m, h => by
  unfold Rep at h ⊢
  obtain ⟨a, xs, e1, e2, e3⟩ := h
  have m' : DV.immuts ds = true := by unfold DV.immut at m; exact m
  refine ⟨a, xs, e1, ?_, RepL.immut hw m' e3⟩
  rcases e2 with (h | ⟨o, h⟩) | h
  ·obtain ⟨ha, h⟩ := q0J h
   refine .inl (.inl ?_)
   rw [q0n λ z => ?_]
   ·exact h
   ·rcases List.mem_append.mp z with z | z
    ·exact ha z
    ·obtain ⟨ys, q, m⟩ := hw a z; rw [h] at q; cases q; cases m
  ·obtain ⟨ha, h⟩ := q0J h
   refine .inl (.inr ⟨o, ?_⟩)
   rw [q0n λ z => ?_]
   ·exact h
   ·rcases List.mem_append.mp z with z | z
    ·exact ha z
    ·obtain ⟨ys, q, m⟩ := hw a z; rw [h] at q; cases q; cases m
  ·exact .inr h
 | .lst ds, _, m, _ => by unfold DV.immut at m; cases m
 | .dct _ _, _, m, _ => by unfold DV.immut at m; cases m
 | .exc C, _, _, h => by
  unfold Rep at h ⊢
  obtain ⟨a, C, e1, e2, e3⟩ := h
  obtain ⟨ha, h⟩ := q0J e3
  refine ⟨a, C, e1, e2, ?_⟩
  rw [q0n λ z => ?_]
  ·exact h
  ·rcases List.mem_append.mp z with z | z
   ·exact ha z
   ·obtain ⟨ys, q, m⟩ := hw a z; rw [h] at q; cases q; cases m
 | .fn _, _, _, h => by unfold Rep at h ⊢; exact h
 | .scr ns, _, _, h => by
  unfold Rep at h ⊢
  obtain ⟨a, e1, e2⟩ := h
  refine ⟨a, e1, ?_⟩
  rcases e2 with ⟨o, h⟩ | h
  ·obtain ⟨ha, h⟩ := q0J h
   refine .inl ⟨o, ?_⟩
   rw [q0n λ z => ?_]
   ·exact h
   ·rcases List.mem_append.mp z with z | z
    ·exact ha z
    ·obtain ⟨ys, q, m⟩ := hw a z; rw [h] at q; cases q; cases m
  ·exact .inr h
theorem RepL.immut {D : Dm} {O W : List Addr} {H : Hp} (hw : ∀ a ∈ W, ∃ o, H a = some o /\ mutO o = true) : ∀ {ds : List DV} {xs : List V}, DV.immuts ds = true -> RepL D (L2.wo O H) ds xs -> RepL D (L2.wo (O ++ W) H) ds xs
 | [], _, _, h => by unfold RepL at h ⊢; exact h
 | d :: ds, _, m, h => by
  unfold RepL at h ⊢
  obtain ⟨v, vs, e1, e2, e3⟩ := h
  unfold DV.immuts at m
  rw [Bool.and_eq_true] at m
  exact ⟨v, vs, e1, Rep.immut hw m.1 e2, RepL.immut hw m.2 e3⟩
end
noncomputable def RepT (D : Dm) (W : List Addr) (Ht H : Hp) (d : DV) (v : V) : Prop := match d with
 | .lst ds => ∃ a xs, v = .ref a /\ a ∈ W /\ Ht a = some (.lst xs) /\ RepL D H ds xs
 | d => Rep D H d v
theorem RepT.mono {D : Dm} {W : List Addr} {Ht Ht' H H' : Hp} {d : DV} {v : V} (et : Same Ht Ht') (e : Same H H') (h : RepT D W Ht H d v) : RepT D W Ht' H' d v := by
 cases d with
 | lst ds => obtain ⟨a, xs, e1, e0, e2, e3⟩ := h; exact ⟨a, xs, e1, e0, et _ _ e2, e3.mono e⟩
 | non => exact Rep.mono (D := D) (d := .non) (v := v) e h
 | bl b => exact Rep.mono (D := D) (d := .bl b) (v := v) e h
 | int b => exact Rep.mono (D := D) (d := .int b) (v := v) e h
 | str b => exact Rep.mono (D := D) (d := .str b) (v := v) e h
 | tup b => exact Rep.mono (D := D) (d := .tup b) (v := v) e h
 | dct b c => exact Rep.mono (D := D) (d := .dct b c) (v := v) e h
 | exc b => exact Rep.mono (D := D) (d := .exc b) (v := v) e h
 | fn b => exact Rep.mono (D := D) (d := .fn b) (v := v) e h
 | scr b => exact Rep.mono (D := D) (d := .scr b) (v := v) e h
theorem RepT.rep {D : Dm} {W : List Addr} {Ht H : Hp} {d : DV} {v : V} (e : Same H Ht) (h : RepT D W Ht H d v) : Rep D Ht d v := by
 cases d with
 | lst ds => obtain ⟨a, xs, e1, e0, e2, e3⟩ := h; exact q0u.mpr ⟨a, xs, e1, e2, e3.mono e⟩
 | non => exact Rep.mono (D := D) (d := .non) (v := v) e h
 | bl b => exact Rep.mono (D := D) (d := .bl b) (v := v) e h
 | int b => exact Rep.mono (D := D) (d := .int b) (v := v) e h
 | str b => exact Rep.mono (D := D) (d := .str b) (v := v) e h
 | tup b => exact Rep.mono (D := D) (d := .tup b) (v := v) e h
 | dct b c => exact Rep.mono (D := D) (d := .dct b c) (v := v) e h
 | exc b => exact Rep.mono (D := D) (d := .exc b) (v := v) e h
 | fn b => exact Rep.mono (D := D) (d := .fn b) (v := v) e h
 | scr b => exact Rep.mono (D := D) (d := .scr b) (v := v) e h
noncomputable def Got (D : Dm) (O W : List Addr) (H0 H : Hp) (d : DV) (c : Cl) (v : V) : Prop := match c with
 | .weak => Rep D (L2.wo O H) d v
 | .top => RepT D W (L2.wo O H) (L2.wo (O ++ W) H) d v
 | .strong => Rep D (L2.wo (O ++ W) H) d v
 | .fresh => ∃ p xs ds, v = .ref p /\ d = .lst ds /\ H0 p = none /\ H p = some (.lst xs) /\ RepL D (L2.wo (p :: (O ++ W)) H) ds xs
 | .ft => ∃ t ts p xs ds es, v = .ref t /\ d = .tup (.lst ds :: es) /\ SqT D.K (L2.wo (O ++ W) H) t (.ref p :: ts) /\ H0 p = none /\ H p = some (.lst xs) /\ RepL D (L2.wo (p :: (O ++ W)) H) ds xs /\ RepL D (L2.wo (p :: (O ++ W)) H) es ts
section
variable {D : Dm} {O W : List Addr} {H0 H H' : Hp} {d : DV} {ds : List DV} {c : Cl} {v : V}
theorem q4W : ∀ b ∈ O, b ∈ O ++ W := λ _ h => List.mem_append_left _ h
theorem Got.mono (h : Got D O W H0 H d c v) (e : Same H H') : Got D O W H0 H' d c v := by
 cases c with
 | weak => exact Rep.mono e.wo h
 | top => exact RepT.mono e.wo e.wo h
 | strong => exact Rep.mono e.wo h
 | fresh =>
  obtain ⟨p, xs, ds, e1, e2, e3, e4, e5⟩ := h
  exact ⟨p, xs, ds, e1, e2, e3, e _ _ e4, e5.mono e.wo⟩
 | ft =>
  obtain ⟨t, ts, p, xs, ds, es, e1, e2, e0, e3, e4, e5, e6⟩ := h
  exact ⟨t, ts, p, xs, ds, es, e1, e2, e.wo.tseq e0, e3, e _ _ e4, e5.mono e.wo, e6.mono e.wo⟩
theorem Got.since {H1 : Hp} (h : Got D O W H1 H d c v) (e : Same H0 H1) : Got D O W H0 H d c v := by
 cases c with
 | weak => exact h
 | top => exact h
 | strong => exact h
 | fresh =>
  obtain ⟨p, xs, ds, e1, e2, e3, e4, e5⟩ := h
  exact ⟨p, xs, ds, e1, e2, e.free e3, e4, e5⟩
 | ft =>
  obtain ⟨t, ts, p, xs, ds, es, e1, e2, e0, e3, e4, e5, e6⟩ := h
  exact ⟨t, ts, p, xs, ds, es, e1, e2, e0, e.free e3, e4, e5, e6⟩
theorem Got.ft (h : Got D O W H0 H d .ft v) (hd : Hid O W H0 H) : Rep D (L2.wo (O ++ W) H) d v := by
 obtain ⟨t, ts, p, xs, ds, es, e1, e2, e0, e3, e4, e5, e6⟩ := h
 have hp : p ∉ O ++ W := λ z => hd.ot p z e3
 have up : Same (L2.wo (p :: (O ++ W)) H) (L2.wo (O ++ W) H) := q0x λ b hb => List.mem_cons_of_mem _ hb
 rw [e2]
 exact q0z.mpr ⟨t, _, e1, e0, q0e.mpr ⟨_, _, rfl, q0u.mpr ⟨p, xs, rfl, by rw [q0n hp]; exact e4, e5.mono up⟩, e6.mono up⟩⟩
theorem Got.strong (h : Got D O W H0 H d .fresh v) (hd : Hid O W H0 H) : Rep D (L2.wo (O ++ W) H) d v := by
 obtain ⟨p, xs, ds, e1, e2, e3, e4, e5⟩ := h
 have hp : p ∉ O ++ W := λ z => hd.ot p z e3
 rw [e2]
 exact q0u.mpr ⟨p, xs, e1, by rw [q0n hp]; exact e4, e5.mono (q0x λ b hb => List.mem_cons_of_mem _ hb)⟩
theorem Got.weak (h : Got D O W H0 H d c v) (hd : Hid O W H0 H) : Rep D (L2.wo O H) d v := by
 cases c with
 | weak => exact h
 | top => exact RepT.rep (q0x q4W) h
 | strong => exact Rep.mono (q0x q4W) h
 | fresh => exact Rep.mono (q0x q4W) (h.strong hd)
 | ft => exact Rep.mono (q0x q4W) (h.ft hd)
theorem Got.all (h : Got D O W H0 H d c v) (hd : Hid O W H0 H) : Rep D H d v := Rep.mono q0F (h.weak hd)
theorem Got.stro (h : Got D O W H0 H d c v) (hd : Hid O W H0 H) (hs : L2.stro d c = true) : Rep D (L2.wo (O ++ W) H) d v := by
 cases c with
 | strong => exact h
 | fresh => exact h.strong hd
 | ft => exact h.ft hd
 | weak => exact Rep.immut (λ a ha => by obtain ⟨xs, e, m⟩ := hd.wl a ha; exact ⟨xs, hd.same _ _ e, m⟩) hs (h.weak hd)
 | top => exact Rep.immut (λ a ha => by obtain ⟨xs, e, m⟩ := hd.wl a ha; exact ⟨xs, hd.same _ _ e, m⟩) hs (h.weak hd)
theorem Got.items (h : Got D O W H0 H (.lst ds) c v) (hd : Hid O W H0 H) (hc : c ≠ .weak) : ∃ a xs, v = .ref a /\ H a = some (.lst xs) /\ RepL D (L2.wo (O ++ W) H) ds xs := by
 cases c with
 | weak => exact absurd rfl hc
 | top =>
  obtain ⟨a, xs, e1, e0, e2, e3⟩ := h
  exact ⟨a, xs, e1, q0F _ _ e2, e3⟩
 | strong =>
  obtain ⟨a, xs, e1, e2, e3⟩ := q0u.mp h
  exact ⟨a, xs, e1, q0F _ _ e2, e3⟩
 | fresh =>
  obtain ⟨a, xs, e1, e2, e3⟩ := q0u.mp (h.strong hd)
  exact ⟨a, xs, e1, q0F _ _ e2, e3⟩
 | ft =>
  obtain ⟨a, xs, e1, e2, e3⟩ := q0u.mp (h.ft hd)
  exact ⟨a, xs, e1, q0F _ _ e2, e3⟩
theorem Got.itemsT (h : Got D O W H0 H (.tup ds) c v) (hd : Hid O W H0 H) (hc : c ≠ .weak) : ∃ a xs, v = .ref a /\ SqT D.K H a xs /\ RepL D (L2.wo (O ++ W) H) ds xs := by
 cases c with
 | weak => exact absurd rfl hc
 | top =>
  obtain ⟨a, xs, e1, e2, e3⟩ := q0z.mp (show Rep D (L2.wo (O ++ W) H) (.tup ds) v from h)
  exact ⟨a, xs, e1, q0F.tseq e2, e3⟩
 | strong =>
  obtain ⟨a, xs, e1, e2, e3⟩ := q0z.mp h
  exact ⟨a, xs, e1, q0F.tseq e2, e3⟩
 | fresh =>
  obtain ⟨p, xs, ds, e1, e2, e3, e4, e5⟩ := h
  cases e2
 | ft =>
  obtain ⟨a, xs, e1, e2, e3⟩ := q0z.mp (h.ft hd)
  exact ⟨a, xs, e1, q0F.tseq e2, e3⟩
theorem Got.lst (h : Got D O W H0 H (.lst ds) c v) (hd : Hid O W H0 H) : ∃ a xs, v = .ref a /\ H a = some (.lst xs) /\ RepL D (L2.wo O H) ds xs := by
 obtain ⟨a, xs, e1, e2, e3⟩ := q0u.mp (h.weak hd)
 exact ⟨a, xs, e1, q0F _ _ e2, e3⟩
theorem Got.tup (h : Got D O W H0 H (.tup ds) c v) (hd : Hid O W H0 H) : ∃ a xs, v = .ref a /\ SqT D.K H a xs /\ RepL D (L2.wo O H) ds xs := by
 obtain ⟨a, xs, e1, e2, e3⟩ := q0z.mp (h.weak hd)
 exact ⟨a, xs, e1, q0F.tseq e2, e3⟩
noncomputable def q0Q (O W : List Addr) : Cl -> List Addr
 | .weak => O
 | _ => O ++ W
theorem Got.lstC (h : Got D O W H0 H (.lst ds) c v) (hd : Hid O W H0 H) : ∃ a xs, v = .ref a /\ H a = some (.lst xs) /\ RepL D (L2.wo (q0Q O W c) H) ds xs := by
 cases c with
 | weak => exact h.lst hd
 | top => exact h.items hd (by intro z; cases z)
 | strong => exact h.items hd (by intro z; cases z)
 | fresh => exact h.items hd (by intro z; cases z)
 | ft => exact h.items hd (by intro z; cases z)
theorem Got.tupC (h : Got D O W H0 H (.tup ds) c v) (hd : Hid O W H0 H) : ∃ a xs, v = .ref a /\ SqT D.K H a xs /\ RepL D (L2.wo (q0Q O W c) H) ds xs := by
 cases c with
 | weak => exact h.tup hd
 | top => exact h.itemsT hd (by intro z; cases z)
 | strong => exact h.itemsT hd (by intro z; cases z)
 | fresh => exact h.itemsT hd (by intro z; cases z)
 | ft => exact h.itemsT hd (by intro z; cases z)
theorem Got.item (h : Rep D (L2.wo (q0Q O W c) H) d v) : Got D O W H0 H d c.item v := by
 cases c <;> exact h
theorem q0y {i : Int} (hc : c ≠ .fresh := by intro z; cases z) (hc' : c ≠ .ft := by intro z; cases z) : Got D O W H0 H (.int i) c (.int i) := by
 have q : ∀ H, Rep D H (.int i) (.int i) := λ H => q0A.mpr rfl
 cases c with
 | fresh => exact absurd rfl hc
 | ft => exact absurd rfl hc'
 | weak => exact q (L2.wo O H)
 | strong => exact q (L2.wo (O ++ W) H)
 | top => exact q (L2.wo (O ++ W) H)
theorem q4e {i : Bool} : Got D O W H0 H (.bl i) .strong (.bl i) := (q3p.mpr rfl : Rep D (L2.wo (O ++ W) H) (.bl i) (.bl i))
theorem z1l : Got D O W H0 H .non .strong .non := (q3O.mpr rfl : Rep D (L2.wo (O ++ W) H) .non .non)
theorem Got.int {i : Int} (h : Got D O W H0 H (.int i) c v) (hd : Hid O W H0 H) : v = .int i := q0A.mp (h.weak hd)
theorem Got.bl {i : Bool} (h : Got D O W H0 H (.bl i) c v) (hd : Hid O W H0 H) : v = .bl i := q3p.mp (h.weak hd)
theorem Got.str {x : Str} (h : Got D O W H0 H (.str x) c v) (hd : Hid O W H0 H) : v = .str x /\ x.length <= sizeLine := q2a.mp (h.weak hd)
theorem q1x {p : Addr} {xs : List V} (hd : Hid O W H0 H) (hp : H p = none) (r : RepL D (L2.wo (O ++ W) H) ds xs) : Got D O W H0 (upd H p (.lst xs)) (.lst ds) .fresh (.ref p) := by
 refine ⟨p, xs, ds, rfl, rfl, hd.same.free hp, q0m, r.mono λ b o e => ?_⟩
 obtain ⟨hb, e⟩ := q0J e
 have hbp : b ≠ p := q0o e hp
 rw [q0n (by intro z; rcases List.mem_cons.mp z with z | z; exact hbp z; exact hb z), q0j hbp]
 exact e
theorem q4I {p : Addr} {xs : List V} (hd : Hid O W H0 H) (hp : H p = none) (r : RepL D (L2.wo O H) ds xs) : Got D O W H0 (upd H p (.lst xs)) (.lst ds) .weak (.ref p) := by
 have hpo : p ∉ O := λ z => hd.newOut hp (List.mem_append_left _ z)
 exact q0u.mpr ⟨p, xs, rfl, by rw [q0n hpo]; exact q0m, r.mono (q0h hp).wo⟩
theorem q3k {p : Addr} {xs : List V} (hd : Hid O W H0 H) (hp : H p = none) (r : RepL D (L2.wo (q0Q O W c) H) ds xs) : Got D O W H0 (upd H p (.lst xs)) (.lst ds) (Cl.anew c c) (.ref p) := by
 cases c with
 | weak => exact q4I hd hp r
 | top => exact q1x hd hp r
 | strong => exact q1x hd hp r
 | fresh => exact q1x hd hp r
 | ft => exact q1x hd hp r
theorem q3L {p : Addr} {xs : List V} (hd : Hid O W H0 H) (hp : H p = none) (r : RepL D (L2.wo (O ++ W) H) ds xs) : Got D O W H0 (upd H p (.tup xs)) (.tup ds) .strong (.ref p) :=
 q0z.mpr ⟨p, xs, rfl, SqT.of (by rw [q0n (hd.newOut hp)]; exact q0m), r.mono (q0h hp).wo⟩
theorem q6n {p : Addr} {xs : List V} (hd : Hid O W H0 H) (hp : H p = none) (r : RepL D (L2.wo O H) ds xs) : Got D O W H0 (upd H p (.tup xs)) (.tup ds) .weak (.ref p) :=
 q0z.mpr ⟨p, xs, rfl, SqT.of (by rw [q0n λ z => hd.newOut hp (List.mem_append_left _ z)]; exact q0m), r.mono (q0h hp).wo⟩
theorem z0i {p : Addr} {xs : List V} (hd : Hid O W H0 H) (hp : H p = none) (r : RepL D (L2.wo (q0Q O W c) H) ds xs) : Got D O W H0 (upd H p (.tup xs)) (.tup ds) c.item (.ref p) := by
 cases c with
 | weak => exact q6n hd hp r
 | top => exact q3L hd hp r
 | strong => exact q3L hd hp r
 | fresh => exact q3L hd hp r
 | ft => exact q3L hd hp r
end
inductive GotL (D : Dm) (O W : List Addr) (H0 H : Hp) : List (DV × Cl) -> List V -> Prop where
 | nil : GotL D O W H0 H [] []
 | cons {d : DV} {c : Cl} {v : V} {l : List (DV × Cl)} {vs : List V} : Got D O W H0 H d c v -> GotL D O W H0 H l vs -> GotL D O W H0 H ((d, c) :: l) (v :: vs)
section
variable {D : Dm} {O W : List Addr} {H0 H H' : Hp}
theorem GotL.repL {l : List (DV × Cl)} {vs : List V} (h : GotL D O W H0 H l vs) (hd : Hid O W H0 H) : RepL D (L2.wo O H) (l.map (·.1)) vs := by
 induction h with
 | nil => exact q0q.mpr rfl
 | cons h _ ih => exact q0e.mpr ⟨_, _, rfl, h.weak hd, ih⟩
theorem GotL.stros {l : List (DV × Cl)} {vs : List V} (h : GotL D O W H0 H l vs) (hd : Hid O W H0 H) (hs : L2.stros l = true) : RepL D (L2.wo (O ++ W) H) (l.map (·.1)) vs := by
 induction h with
 | nil => exact q0q.mpr rfl
 | cons h _ ih =>
  unfold L2.stros at hs
  rw [List.all_cons, Bool.and_eq_true] at hs
  exact q0e.mpr ⟨_, _, rfl, h.stro hd hs.1, ih hs.2⟩
theorem GotL.length {l : List (DV × Cl)} {vs : List V} (h : GotL D O W H0 H l vs) : vs.length = l.length := by
 induction h with
 | nil => rfl
 | cons _ _ ih => rw [List.length_cons, List.length_cons, ih]
theorem GotL.strong {l : List (DV × Cl)} {vs : List V} (h : GotL D O W H0 H l vs) (hd : Hid O W H0 H) (hs : (l.all λ p => p.2 == .strong || p.2 == .fresh) = true) : RepL D (L2.wo (O ++ W) H) (l.map (·.1)) vs := by
 refine h.stros hd ?_
 unfold L2.stros
 rw [List.all_eq_true] at hs ⊢
 intro p hp
 have := hs p hp
 unfold L2.stro
 cases e : p.2 <;> rw [e] at this <;> first | rfl | cases this
theorem GotL.one {d : DV} {c : Cl} {vs : List V} (h : GotL D O W H0 H [(d, c)] vs) : ∃ v, vs = [v] /\ Got D O W H0 H d c v := by
 cases h with
 | cons h t => cases t; exact ⟨_, rfl, h⟩
theorem GotL.two {d d' : DV} {c c' : Cl} {vs : List V} (h : GotL D O W H0 H [(d, c), (d', c')] vs) : ∃ v v', vs = [v, v'] /\ Got D O W H0 H d c v /\ Got D O W H0 H d' c' v' := by
 cases h with
 | cons h t => obtain ⟨v', e, h'⟩ := t.one; subst e; exact ⟨_, _, rfl, h, h'⟩
theorem GotL.three {d d' d2 : DV} {c c' c2 : Cl} {vs : List V} (h : GotL D O W H0 H [(d, c), (d', c'), (d2, c2)] vs) : ∃ v v' v2, vs = [v, v', v2] /\ Got D O W H0 H d c v /\ Got D O W H0 H d' c' v' /\ Got D O W H0 H d2 c2 v2 := by
 cases h with
 | cons h t => obtain ⟨v', v2, e, h', h2⟩ := t.two; subst e; exact ⟨_, _, _, rfl, h, h', h2⟩
end
noncomputable def O2At (H : Hp) (W : List Addr) (p : Addr) (L : List (Addr × List Int)) : Prop := p ∈ W /\ H p = some (.lst (L.map λ q => .ref q.1)) /\ (∀ q ∈ L, q.1 ∈ W /\ H q.1 = some (.lst (q.2.map V.int))) /\ (p :: L.map (·.1)).Nodup
noncomputable def o2D (L : List (Addr × List Int)) : DV := .lst (L.map λ q => .lst (q.2.map DV.int))
theorem O2At.mono {H H' : Hp} {W : List Addr} {p : Addr} {L : List (Addr × List Int)} (h : O2At H W p L) (e : Same H H') : O2At H' W p L := ⟨h.1, e _ _ h.2.1, λ q hq => ⟨(h.2.2.1 q hq).1, e _ _ (h.2.2.1 q hq).2⟩, h.2.2.2⟩
theorem O2At.sub {H : Hp} {W W' : List Addr} {p : Addr} {L : List (Addr × List Int)} (h : O2At H W p L) (e : ∀ a ∈ p :: L.map (·.1), a ∈ W -> a ∈ W') : O2At H W' p L :=
 ⟨e _ (List.mem_cons_self ..) h.1, h.2.1, λ q hq => ⟨e _ (List.mem_cons_of_mem _ (List.mem_map.mpr ⟨q, hq, rfl⟩)) (h.2.2.1 q hq).1, (h.2.2.1 q hq).2⟩, h.2.2.2⟩
theorem O2At.dom {H : Hp} {W : List Addr} {p a : Addr} {L : List (Addr × List Int)} (h : O2At H W p L) (ha : a ∈ p :: L.map (·.1)) : a ∈ W /\ ∃ xs, H a = some (.lst xs) := by
 rcases List.mem_cons.mp ha with z | z
 ·rw [z]; exact ⟨h.1, _, h.2.1⟩
 ·obtain ⟨q, hq, rfl⟩ := List.mem_map.mp z
  exact ⟨(h.2.2.1 q hq).1, _, (h.2.2.1 q hq).2⟩
theorem O2At.write {H : Hp} {W : List Addr} {p a : Addr} {o : HO} {L : List (Addr × List Int)} (h : O2At H W p L) (ha : a ∉ p :: L.map (·.1)) : O2At (upd H a o) W p L :=
 ⟨h.1, by rw [q0j λ z => ha (by rw [← z]; exact List.mem_cons_self ..)]; exact h.2.1, λ q hq => ⟨(h.2.2.1 q hq).1, by rw [q0j λ z => ha (by rw [← z]; exact List.mem_cons_of_mem _ (List.mem_map.mpr ⟨q, hq, rfl⟩))]; exact (h.2.2.1 q hq).2⟩, h.2.2.2⟩
noncomputable def odD (L : List (Int × Int)) : DV := .dct (L.map λ p => .i p.1) (L.map λ p => .int p.2)
noncomputable def odK (L : List (Int × Int)) : List (Key × V) := L.map λ p => (.inl p.1, .int p.2)
noncomputable def OdAt (H : Hp) (σ : St) (δ : List Sv) (W : List Addr) : Prop := ∀ (i : Nat) d, δ[i]? = some (.od d) -> (∃ a L, d = odD L /\ σ[i]? = some (some (.ref a)) /\ a ∈ W /\ H a = some (.dK (odK L))) /\ ∀ (j : Nat) d', δ[j]? = some (.od d') -> j = i
theorem OdAt.step {H H' : Hp} {σ σ' : St} {δ δ' : List Sv} {W W' : List Addr} (h : OdAt H σ δ W) (hδ : ∀ (j : Nat) d, δ'[j]? = some (.od d) -> δ[j]? = some (.od d) /\ σ'[j]? = σ[j]?) (hW : ∀ a ∈ W, (∃ kvs, H a = some (.dK kvs)) -> a ∈ W') (hH : ∀ a kvs, a ∈ W -> H a = some (.dK kvs) -> H' a = some (.dK kvs)) : OdAt H' σ' δ' W' := λ i d q => by
 obtain ⟨q1, q2⟩ := hδ i d q
 obtain ⟨⟨a, L, e0, e1, e2, e3⟩, u⟩ := h i d q1
 exact ⟨⟨a, L, e0, by rw [q2]; exact e1, hW a e2 ⟨_, e3⟩, hH a _ e2 e3⟩, λ j d' z => u j d' (hδ j d' z).1⟩
theorem q6x {σ : St} {δ : List Sv} {i : Nat} {X : Sv} (x : Option V) (hX : ∀ d, X ≠ .od d) : ∀ (j : Nat) d, (δ.set i X)[j]? = some (.od d) -> δ[j]? = some (.od d) /\ (σ.set i x)[j]? = σ[j]? := λ j d h => by
 have hj : j ≠ i := λ z => by
  subst z
  have hl : j < δ.length := by
   have := (List.getElem?_eq_some_iff.mp h).1
   rw [List.length_set] at this; exact this
  rw [List.getElem?_set_self hl] at h
  exact hX d (Option.some.inj h)
 rw [List.getElem?_set_ne (Ne.symm hj)] at h ⊢
 exact ⟨h, rfl⟩
theorem q7I {σ : St} {δ : List Sv} {i : Nat} {X : Sv} (hX : ∀ d, X ≠ .od d) : ∀ (j : Nat) d, (δ.set i X)[j]? = some (.od d) -> δ[j]? = some (.od d) /\ σ[j]? = σ[j]? := λ j d h => ⟨(q6x (σ := σ) none hX j d h).1, rfl⟩
structure RSt (D : Dm) (H : Hp) (σ : St) (δ : List Sv) (O W : List Addr) : Prop where
 val : ∀ (i : Nat) d, δ[i]? = some (.val d) -> ∃ v, σ[i]? = some (some v) /\ Rep D (L2.wo (O ++ W) H) d v
 own : ∀ (i : Nat) d, δ[i]? = some (.own d) -> ∃ a xs ds, d = .lst ds /\ σ[i]? = some (some (.ref a)) /\ a ∈ W /\ H a = some (.lst xs) /\ RepL D (L2.wo (O ++ W) H) ds xs
 inj : ∀ (i j : Nat) a d d', δ[i]? = some (.own d) -> δ[j]? = some (.own d') -> σ[i]? = some (some (.ref a)) -> σ[j]? = some (some (.ref a)) -> i = j
 ot : ∀ (i : Nat) d, δ[i]? = some (.ot d) -> (∃ t ts p xs ds es, d = .tup (.lst ds :: es) /\ σ[i]? = some (some (.ref t)) /\ SqT D.K (L2.wo (O ++ W) H) t (.ref p :: ts) /\ p ∈ W /\ H p = some (.lst xs) /\ RepL D (L2.wo (O ++ W) H) ds xs /\ RepL D (L2.wo (O ++ W) H) es ts /\
  ∀ (j : Nat) d', δ[j]? = some (.own d') -> σ[j]? ≠ some (some (.ref p))) /\ ∀ (j : Nat) d', δ[j]? = some (.ot d') -> j = i
 o2 : ∀ (i : Nat) d, δ[i]? = some (.o2 d) -> (∃ p L, d = o2D L /\ σ[i]? = some (some (.ref p)) /\ O2At H W p L /\ ∀ (j : Nat) d' a, δ[j]? = some (.own d') -> σ[j]? = some (some (.ref a)) -> a ∉ p :: L.map (·.1)) /\ (∀ (j : Nat) d', δ[j]? = some (.o2 d') -> j = i) /\ ∀ (j : Nat) d', δ[j]? ≠ some (.ot d')
 od : OdAt H σ δ W
 len : σ.length = δ.length
 hid : Hid O W H H
theorem Hid.later {O W : List Addr} {H H' : Hp} (h : Hid O W H H) (e : Same H H') : Hid O W H' H' := ⟨λ a ha q => h.ot a ha (e.free q), Same.refl _, λ a ha => by obtain ⟨xs, q, m⟩ := h.wl a ha; exact ⟨xs, e _ _ q, m⟩, h.dj⟩
theorem RSt.mono {D : Dm} {H H' : Hp} {σ : St} {δ : List Sv} {O W : List Addr} (R : RSt D H σ δ O W) (e : Same H H') : RSt D H' σ δ O W where
 val := λ i d h => by obtain ⟨v, e1, e2⟩ := R.val i d h; exact ⟨v, e1, e2.mono e.wo⟩
 own := λ i ds h => by obtain ⟨a, xs, ds, e0, e1, e2, e3, e4⟩ := R.own i ds h; exact ⟨a, xs, ds, e0, e1, e2, e _ _ e3, e4.mono e.wo⟩
 inj := R.inj
 ot := λ i d h => by
  obtain ⟨⟨t, ts, p, xs, ds, es, e0, e1, e2, e3, e4, e5, e6, e7⟩, u⟩ := R.ot i d h
  exact ⟨⟨t, ts, p, xs, ds, es, e0, e1, e.wo.tseq e2, e3, e _ _ e4, e5.mono e.wo, e6.mono e.wo, e7⟩, u⟩
 o2 := λ i d h => by
  obtain ⟨⟨p, L, e0, e1, e2, e3⟩, u, n⟩ := R.o2 i d h
  exact ⟨⟨p, L, e0, e1, e2.mono e, e3⟩, u, n⟩
 od := R.od.step (λ j d h => ⟨h, rfl⟩) (λ _ h _ => h) (λ a kvs _ h => e _ _ h)
 len := R.len
 hid := R.hid.later e
noncomputable def Post (D : Dm) (E : St -> XK) (σ : St) (O W : List Addr) (H0 H : Hp) (Q : VK) : Re -> Prop
 | .ok d c => ∀ v H', Same H H' -> Got D O W H0 H' d c v -> Q v H'
 | .ex c => ∀ H' C, D.mg c = some C -> Same H H' -> E σ C none H'
noncomputable def dE (D : Dm) (E : St -> XK) (δ : List Sv) (r : Re) : TE := λ σ H Q => ∃ O W, RSt D H σ δ O W /\ Post D E σ O W H H Q r
noncomputable def z6s (D : Dm) (E : St -> XK) (σ : St) (O W : List Addr) (H0 H : Hp) (Q : List V -> Hp -> Prop) : Rs -> Prop
 | .ok l => ∀ vs H', Same H H' -> GotL D O W H0 H' l vs -> Q vs H'
 | .ex c => ∀ H' C, D.mg c = some C -> Same H H' -> E σ C none H'
noncomputable def dA (D : Dm) (E : St -> XK) (δ : List Sv) (r : Rs) : TA := λ σ H Q => ∃ O W, RSt D H σ δ O W /\ z6s D E σ O W H H Q r
noncomputable def q9J (D : Dm) (E : St -> XK) (σ : St) (H : Hp) (Q : Bool -> Hp -> Prop) : Rt -> Prop
 | .ok b => ∀ H', Same H H' -> Q b H'
 | .ex c => ∀ H' C, D.mg c = some C -> Same H H' -> E σ C none H'
noncomputable def dT (D : Dm) (E : St -> XK) (δ : List Sv) (r : Rt) : TT := λ σ H Q => ∃ O W, RSt D H σ δ O W /\ q9J D E σ H Q r
theorem Post.step {D : Dm} {E : St -> XK} {σ : St} {O W : List Addr} {H0 H H1 : Hp} {Q : VK} {r : Re} (h : Post D E σ O W H0 H Q r) (e : Same H H1) : Post D E σ O W H0 H1 Q r := by
 cases r with
 | ok d c => exact λ v H' s g => h v H' (e.trans s) g
 | ex c => exact λ H' C m s => h H' C m (e.trans s)
theorem Post.later {D : Dm} {E : St -> XK} {σ : St} {O W : List Addr} {H0 H H1 : Hp} {Q : VK} {r : Re} (h : Post D E σ O W H0 H Q r) (e : Same H H1) (e0 : Same H0 H1) : Post D E σ O W H1 H1 Q r := by
 cases r with
 | ok d c => exact λ v H' s g => h v H' (e.trans s) (g.since e0)
 | ex c => exact λ H' C m s => h H' C m (e.trans s)
theorem GotL.since {D : Dm} {O W : List Addr} {H0 H1 H : Hp} {l : List (DV × Cl)} {vs : List V} (h : GotL D O W H1 H l vs) (e : Same H0 H1) : GotL D O W H0 H l vs := by
 induction h with
 | nil => exact .nil
 | cons g _ ih => exact .cons (g.since e) ih
theorem q9J.later {D : Dm} {E : St -> XK} {σ : St} {H H1 : Hp} {Q : Bool -> Hp -> Prop} {r : Rt} (h : q9J D E σ H Q r) (e : Same H H1) : q9J D E σ H1 Q r := by
 cases r with
 | ok b => exact λ H' s => h H' (e.trans s)
 | ex c => exact λ H' C m s => h H' C m (e.trans s)
theorem PE.weak {X : Cx} {e : Expr} {t t' : TE} (h : PE X e t) (k : ∀ σ H Q, t' σ H Q -> t σ H Q) : PE X e t' := λ pins s σ H Q I q => h pins s σ H Q I (k σ H Q q)
theorem PT.weak {X : Cx} {e : Expr} {t t' : TT} (h : PT X e t) (k : ∀ σ H Q, t' σ H Q -> t σ H Q) : PT X e t' := λ pins s σ H Q I q => h pins s σ H Q I (k σ H Q q)
theorem PW.weak {X : Cx} {e : Expr} {t t' : TT} (h : PW X e t) (k : ∀ σ H Q, t' σ H Q -> t σ H Q) : PW X e t' := λ whole pins s σ H Q I q => h whole pins s σ H Q I (k σ H Q q)
theorem PA.weak {X : Cx} {e : List Expr} {t t' : TA} (h : PA X e t) (k : ∀ σ H Q, t' σ H Q -> t σ H Q) : PA X e t' := λ pos pins s σ H Q I q => h pos pins s σ H Q I (k σ H Q q)
theorem PS.weak {X : Cx} {e : Stmt} {t t' : TS} (h : PS X e t) (k : ∀ D σ H, t' D σ H -> t D σ H) : PS X e t' := λ pins s σ H D I q => h pins s σ H D I (k D σ H q)
theorem PSs.weak {X : Cx} {e : List Stmt} {t t' : TS} (h : PSs X e t) (k : ∀ D σ H, t' D σ H -> t D σ H) : PSs X e t' := λ pins s σ H D I q => h pins s σ H D I (k D σ H q)
theorem q4w {X : Cx} {e : Expr} : PW X e (λ _ _ _ => False) := λ _ _ _ _ _ _ _ h => h.elim
theorem q1u {X : Cx} {e : Expr} : PE X e (λ _ _ _ => False) := λ _ _ _ _ _ _ h => h.elim
theorem z2K {X : Cx} {e : List Expr} : PA X e (λ _ _ _ => False) := λ _ _ _ _ _ _ _ h => h.elim
end L2
end
section
namespace L2
open PySem PySem.Spec PyProof.Rows
theorem q1r {n : Nat} (h : n <= mostLen) : n <= sizeLine := Nat.le_trans h (by decide)
section
variable {X : Cx} {E : St -> XK} {δ : List Sv} {a b c e : Expr} {es : List Expr}
theorem z0Q {r : V -> Hp -> VK -> Prop} {k : DV -> Cl -> Option Re} {ra : Option Re} {re : Re} (hop : ∀ ta, PE X a ta -> PE X e (tUn r ta)) (ha : ∀ q, ra = some q -> PE X a (dE X.D E δ q)) (h : Re.thn ra k = some re)
  (hr : ∀ O W H0 H x Q dx cx σ, k dx cx = some re -> Hid O W H0 H -> Got X.D O W H0 H dx cx x -> Post X.D E σ O W H0 H Q re -> r x H Q) : PE X e (dE X.D E δ re) := by
 cases hra : ra with
 | none => rw [hra] at h; cases h
 | some q =>
  rw [hra] at h
  have A := ha q hra
  cases q with
  | ex c =>
   cases h
   exact (hop _ A).weak λ σ H Q ⟨O, W, R, p⟩ => ⟨O, W, R, p⟩
  | ok dx cx =>
   have h' : k dx cx = some re := h
   exact (hop _ A).weak λ σ H Q ⟨O, W, R, p⟩ => ⟨O, W, R, λ x H1 s1 g1 => hr O W H H1 x Q dx cx σ h' (R.hid.mono s1) g1 (p.step s1)⟩
theorem q6o {r : R2} {k : DV -> Cl -> DV -> Cl -> Option Re} {ra rb : Option Re} {re : Re} (ha : ∀ q, ra = some q -> PE X a (dE X.D E δ q)) (hb : ∀ q, rb = some q -> PE X b (dE X.D E δ q))
  (h : (Re.thn ra λ x cx => Re.thn rb λ y cy => k x cx y cy) = some re)
  (hr : ∀ O W H0 H x y Q dx cx dy cy σ, k dx cx dy cy = some re -> Hid O W H0 H -> Got X.D O W H0 H dx cx x -> Got X.D O W H0 H dy cy y -> Post X.D E σ O W H0 H Q re -> r x y H Q) :
  ∃ ta tb, PE X a ta /\ PE X b tb /\ ∀ σ H Q, dE X.D E δ re σ H Q -> tOp r ta tb σ H Q := by
 cases hra : ra with
 | none => rw [hra] at h; cases h
 | some q =>
  rw [hra] at h
  have A := ha q hra
  cases q with
  | ex c =>
   cases h
   exact ⟨_, _, A, q1u, λ σ H Q ⟨O, W, R, p⟩ => ⟨O, W, R, p⟩⟩
  | ok dx cx =>
   have h' : (Re.thn rb λ y cy => k dx cx y cy) = some re := h
   cases hrb : rb with
   | none => rw [hrb] at h'; cases h'
   | some q =>
    rw [hrb] at h'
    have B := hb q hrb
    cases q with
    | ex c =>
     cases h'
     exact ⟨_, _, A, B, λ σ H Q ⟨O, W, R, p⟩ => ⟨O, W, R, λ x H1 s1 g1 => ⟨O, W, R.mono s1, λ H' C m s => p H' C m (s1.trans s)⟩⟩⟩
    | ok dy cy =>
     have h2 : k dx cx dy cy = some re := h'
     exact ⟨_, _, A, B, λ σ H Q ⟨O, W, R, p⟩ => ⟨O, W, R, λ x H1 s1 g1 => ⟨O, W, R.mono s1, λ y H2 s2 g2 =>
      hr O W H H2 x y Q dx cx dy cy σ h2 ((R.hid.mono s1).mono s2) (g1.mono s2) (g2.since s1) (p.step (s1.trans s2))⟩⟩⟩
theorem q7A {r : R2} {k : DV -> Cl -> DV -> Cl -> Option Re} {ra rb : Option Re} {re : Re} (hop : ∀ ta tb, PE X a ta -> PE X b tb -> PE X e (tOp r ta tb)) (ha : ∀ q, ra = some q -> PE X a (dE X.D E δ q)) (hb : ∀ q, rb = some q -> PE X b (dE X.D E δ q))
  (h : (Re.thn ra λ x cx => Re.thn rb λ y cy => k x cx y cy) = some re)
  (hr : ∀ O W H0 H x y Q dx cx dy cy σ, k dx cx dy cy = some re -> Hid O W H0 H -> Got X.D O W H0 H dx cx x -> Got X.D O W H0 H dy cy y -> Post X.D E σ O W H0 H Q re -> r x y H Q) : PE X e (dE X.D E δ re) := by
 obtain ⟨ta, tb, A, B, q⟩ := q6o ha hb h hr
 exact (hop _ _ A B).weak q
theorem q2J {r : List V -> Hp -> VK -> Prop} {k : List (DV × Cl) -> Option Re} {ra : Option Rs} {re : Re} (hop : ∀ t, PA X es t -> PE X e (tCB r t)) (ha : ∀ q, ra = some q -> PA X es (dA X.D E δ q)) (h : Rs.thn ra k = some re)
  (hr : ∀ O W H0 H vs Q l σ, k l = some re -> Hid O W H0 H -> GotL X.D O W H0 H l vs -> Post X.D E σ O W H0 H Q re -> r vs H Q) : PE X e (dE X.D E δ re) := by
 cases hra : ra with
 | none => rw [hra] at h; cases h
 | some q =>
  rw [hra] at h
  have A := ha q hra
  cases q with
  | ex c =>
   cases h
   exact (hop _ A).weak λ σ H Q ⟨O, W, R, p⟩ => ⟨O, W, R, p⟩
  | ok l =>
   have h' : k l = some re := h
   exact (hop _ A).weak λ σ H Q ⟨O, W, R, p⟩ => ⟨O, W, R, λ vs H1 s1 g1 => hr O W H H1 vs Q l σ h' (R.hid.mono s1) g1 (p.step s1)⟩
end
theorem q5x {D : Dm} {H : Hp} : ∀ {L : List (Addr × List Int)}, (∀ q ∈ L, H q.1 = some (.lst (q.2.map V.int))) -> RepL D H (L.map λ q => .lst (q.2.map DV.int)) (L.map λ q => .ref q.1)
 | [], _ => q0q.mpr rfl
 | q :: L, h => q0e.mpr ⟨_, _, rfl, q0u.mpr ⟨q.1, _, rfl, h q (List.mem_cons_self ..), q1n _⟩, q5x λ q' hq => h q' (List.mem_cons_of_mem _ hq)⟩
section
variable {X : Cx} {E : St -> XK} {δ : List Sv} {pos : Pos}
theorem z1s {i : Nat} {x : Str} {r : Re} (hN : X.N[i]? = some x) (hv : Vis X.env.scope x) (hd : (x == ("__debug__" : Str)) = false) (hcd : (x == ("__classdict__" : Str)) = false)
  (h : (match δ[i]? with | some (.val d) => some (Re.ok d .strong) | some (.own d) => some (.ok d .top) | some (.ot d) => some (.ok d .weak) | some (.o2 d) => some (.ok d .weak) | _ => none) = some r) : PE X (.Name x pos) (dE X.D E δ r) :=
 (q4a hN hv hd hcd).weak λ σ H Q ⟨O, W, R, p⟩ => by
  split at h
  ·rename_i d q
   cases h
   obtain ⟨v, e1, e2⟩ := R.val i d q
   exact ⟨v, e1, p v H (Same.refl H) e2⟩
  ·rename_i d q
   cases h
   obtain ⟨a, xs, ds, e0, e1, e2, e3, e4⟩ := R.own i d q
   subst e0
   refine ⟨.ref a, e1, p _ H (Same.refl H) ⟨a, xs, rfl, e2, ?_, e4⟩⟩
   rw [q0n (R.hid.dj a e2)]
   exact e3
  ·rename_i d q
   cases h
   obtain ⟨⟨t, ts, p1, xs, ds, es, e0, e1, e2, e3, e4, e5, e6, e7⟩, _⟩ := R.ot i d q
   subst e0
   have up : Same (L2.wo (O ++ W) H) (L2.wo O H) := q0x q4W
   refine ⟨.ref t, e1, p _ H (Same.refl H) (q0z.mpr ⟨t, _, rfl, up.tseq e2, q0e.mpr ⟨_, _, rfl, q0u.mpr ⟨p1, xs, rfl, ?_, e5.mono up⟩, e6.mono up⟩⟩ : Rep X.D (L2.wo O H) (.tup (.lst ds :: es)) (.ref t))⟩
   rw [q0n (R.hid.dj p1 e3)]
   exact e4
  ·rename_i d q
   cases h
   obtain ⟨⟨a, L, e0, e1, e2, _⟩, _, _⟩ := R.o2 i d q
   subst e0
   refine ⟨.ref a, e1, p _ H (Same.refl H) (q0u.mpr ⟨a, _, rfl, by rw [q0n (R.hid.dj a e2.1)]; exact e2.2.1, ?_⟩ : Rep X.D (L2.wo O H) (o2D L) (.ref a))⟩
   exact q5x λ q hq => by rw [q0n (R.hid.dj q.1 (e2.2.2.1 q hq).1)]; exact (e2.2.2.1 q hq).2
  ·cases h
theorem z2a {i : Int} {j : Nat} : PE X (.Constant (.int i) j pos) (dE X.D E δ (.ok (.int i) .strong)) := z0v.weak λ σ H Q ⟨O, W, R, p⟩ => p _ H (Same.refl H) q0y
theorem z4j {i : Bool} {j : Nat} : PE X (.Constant (.bool i) j pos) (dE X.D E δ (.ok (.bl i) .strong)) := z6z.weak λ σ H Q ⟨O, W, R, p⟩ => p _ H (Same.refl H) q4e
theorem z1T {i : Str} {j : Nat} (h : i.length <= sizeLine) : PE X (.Constant (.str i) j pos) (dE X.D E δ (.ok (.str i) .strong)) := z3E.weak λ σ H Q ⟨O, W, R, p⟩ => p _ H (Same.refl H) (q2a.mpr ⟨rfl, h⟩ : Rep X.D (L2.wo (O ++ W) H) (.str i) (.str i))
theorem z0X {j : Nat} : PE X (.Constant .none j pos) (dE X.D E δ (.ok .non .strong)) := z4V.weak λ σ H Q ⟨O, W, R, p⟩ => p _ H (Same.refl H) z1l
end
section
variable {X : Cx} {E : St -> XK} {δ : List Sv} {a b c e : Expr} {pos : Pos} {ra rb : Option Re} {re : Re}
theorem q6Q {O W : List Addr} {H0 H : Hp} {C : Int -> Int -> Prop} {g : Int -> Int -> V} {x y : V} {Q : VK} {i j : Int} {ca cb : Cl} {D : Dm} (hd : Hid O W H0 H) (gx : Got D O W H0 H (.int i) ca x) (gy : Got D O W H0 H (.int j) cb y) (hc : C i j) (q : Q (g i j) H) : rI C g x y H Q :=
 ⟨i, j, gx.int hd, gy.int hd, hc, q⟩
theorem q6E {O W : List Addr} {H0 H : Hp} {g : Int -> Int -> V} {x y : V} {Q : VK} {i j : Int} {ca cb : Cl} {D : Dm} (hd : Hid O W H0 H) (gx : Got D O W H0 H (.int i) ca x) (gy : Got D O W H0 H (.int j) cb y) (q : Q (g i j) H) : rI0 g x y H Q :=
 ⟨i, j, gx.int hd, gy.int hd, q⟩
theorem z2e {ca cb : Cl} (h : ca ≠ .weak) (h' : cb ≠ .weak) : Cl.anew ca cb = .fresh := by
 cases ca <;> cases cb <;> first | rfl | exact absurd rfl h | exact absurd rfl h'
noncomputable def q9V (i j : Int) : Prop := CMul i j \/ (i.natAbs < 2 ^ 2000 /\ j.natAbs < 2 ^ 2000)
theorem q5v {i : Int} {n : Nat} (h : i.natAbs < 2 ^ n) : Builtin.Int.intBits i <= n := by
 unfold Builtin.Int.intBits
 by_cases hi : i = 0
 ·subst hi; exact Nat.zero_le n
 ·rw [if_neg (by simpa using hi)]
  have : i.natAbs ≠ 0 := λ z => hi (Int.natAbs_eq_zero.mp z)
  exact (Nat.log2_lt this).mpr h
theorem q9V.ok {i j : Int} (h : q9V i j) : IntMulOk i j := by
 rcases h with h | ⟨h1, h2⟩
 ·exact h.ok
 ·unfold IntMulOk
  have b1 := q5v h1
  have b2 := q5v h2
  have : Builtin.Int.intTooBig ((Builtin.Int.intBits i : Int) + (Builtin.Int.intBits j : Int)) = false := by
   unfold Builtin.Int.intTooBig
   rw [decide_eq_false]
   have : ((bitsLine : Nat) : Int) = 134217728 := by decide
   omega
  rw [this, Bool.and_false]
  exact Bool.false_ne_true
theorem z2J : OpR X (binaryOp .Mult) (rI q9V λ i j => .int (i * j)) := opI λ _ _ _ _ _ _ _ hc q => mul_int q hc.ok
theorem q9y : OpR X (binaryOp .FloorDiv) (rI (λ _ j => 0 < j /\ j < 2 ^ 200) λ i j => .int (i / j)) := opI λ i j _ _ _ _ _ hc q => by
 have h1 : (0 : Int) < j := hc.1
 have h2 : j.natAbs < 2 ^ 200 := by have := hc.2; omega
 refine floordiv_int (by omega) (by rw [Int.fdiv_eq_ediv_of_nonneg i (by omega)]; exact q) (.inl (PyProof.noPylong_of_log2 ?_))
 exact Nat.lt_of_lt_of_le ((Nat.log2_lt (by omega)).mpr h2) (by decide)
theorem z1R : OpR X (binaryOp .Pow) (rI (λ i j => 2 <= i /\ i < 64 /\ 1 <= j /\ j < 64) λ i j => .int (i ^ j.toNat)) := opI λ i j _ _ _ _ _ hc q => by
 obtain ⟨h1, h2, h3, h4⟩ := hc
 refine PySem.AutoIntOps.pow_4 (by omega) (by simp; omega) (by simp; omega) (by simp; omega) ?_ q
 have b1 : Builtin.Int.intBits i <= 200 := q5v (n := 200) (by omega)
 unfold Builtin.Int.intTooBig
 rw [decide_eq_false]
 ·exact Bool.false_ne_true
 ·have : ((bitsLine : Nat) : Int) = 134217728 := by decide
  have : ((Builtin.Int.intBits i : Nat) : Int) * j <= 200 * 64 := Int.mul_le_mul (by omega) (by omega) (by omega) (by omega)
  omega
noncomputable def binR (X : Cx) : Operator -> R2
 | .Add => λ x y H Q => rI0 (λ i j => .int (i + j)) x y H Q \/ rCat x y H Q
 | .Sub => rI0 λ i j => .int (i - j)
 | .Mult => λ x y H Q => rI q9V (λ i j => .int (i * j)) x y H Q \/ rRep x y H Q
 | .Mod => rI (λ _ j => 0 < j) λ i j => .int (i % j)
 | .FloorDiv => rI (λ _ j => 0 < j /\ j < 2 ^ 200) λ i j => .int (i / j)
 | .Pow => rI (λ i j => 2 <= i /\ i < 64 /\ 1 <= j /\ j < 64) λ i j => .int (i ^ j.toNat)
 | .LShift => rI CPow λ i j => .int (i * 2 ^ j.toNat)
 | .RShift => rI (λ _ j => 0 <= j) λ i j => .int (i / 2 ^ j.toNat)
 | .BitAnd => rI0 λ i j => .int (Builtin.bitAnd i j)
 | .BitOr => rI0 λ i j => .int (Builtin.bitOr i j)
 | _ => λ _ _ _ _ => False
theorem z3D {op : Operator} : OpR X (binaryOp op) (binR X op) := by
 cases op with
 | Add => exact z4U.or z3W
 | Sub => exact z3z
 | Mult => exact z2J.or z4D
 | Mod => exact z3l
 | FloorDiv => exact q9y
 | LShift => exact z3J
 | RShift => exact z4e
 | BitAnd => exact z4m
 | BitOr => exact z5P
 | BitXor => exact λ _ _ _ _ _ _ _ _ _ _ _ _ h => h.elim
 | MatMult => exact λ _ _ _ _ _ _ _ _ _ _ _ _ h => h.elim
 | Div => exact λ _ _ _ _ _ _ _ _ _ _ _ _ h => h.elim
 | Pow => exact z1R
theorem z5b {O W : List Addr} {H0 H : Hp} {op : Operator} {x y : V} {dx dy : DV} {cx cy : Cl} {Q : VK} {σ : St} (h : binD op dx dy cx cy = some re) (hd : Hid O W H0 H) (gx : Got X.D O W H0 H dx cx x) (gy : Got X.D O W H0 H dy cy y)
  (p : Post X.D E σ O W H0 H Q re) : binR X op x y H Q := by
 unfold binD at h
 split at h
 ·cases h; exact .inl (q6E hd gx gy (p _ H (Same.refl H) q0y))
 ·cases h; exact q6E hd gx gy (p _ H (Same.refl H) q0y)
 ·split at h
  ·rename_i m
   cases h
   refine .inl (q6Q hd gx gy ?_ (p _ H (Same.refl H) q0y))
   unfold q2i at m
   simp only [Bool.or_eq_true, Bool.and_eq_true, decide_eq_true_eq] at m
   exact m
  ·cases h
 ·split at h
  ·rename_i m; cases h; exact q6Q hd gx gy m (p _ H (Same.refl H) q0y)
  ·cases h
 ·split at h
  ·rename_i m; cases h; exact q6Q hd gx gy m (p _ H (Same.refl H) q0y)
  ·cases h
 ·split at h
  ·rename_i m; cases h; exact q6Q hd gx gy m (p _ H (Same.refl H) q0y)
  ·cases h
 ·split at h
  ·rename_i m; cases h; exact q6Q hd gx gy m (p _ H (Same.refl H) q0y)
  ·cases h
 ·split at h
  ·rename_i m; cases h; exact q6Q hd gx gy m (p _ H (Same.refl H) q0y)
  ·cases h
 ·cases h; exact q6E hd gx gy (p _ H (Same.refl H) q0y)
 ·cases h; exact q6E hd gx gy (p _ H (Same.refl H) q0y)
 ·rename_i xs ys
  split at h
  ·rename_i m
   cases h
   by_cases hw : cx ≠ .weak /\ cy ≠ .weak
   ·obtain ⟨l1, v1, e1, k1, r1⟩ := gx.items hd hw.1
    obtain ⟨l2, v2, e2, k2, r2⟩ := gy.items hd hw.2
    refine .inr (⟨l1, l2, v1, v2, e1, e2, k1, k2, by rw [r1.length, r2.length]; exact q1r m, λ q hq => p _ _ (q0h hq) ?_⟩)
    rw [z2e hw.1 hw.2]
    exact q1x hd hq (r1.append r2)
   ·obtain ⟨l1, v1, e1, k1, r1⟩ := gx.lst hd
    obtain ⟨l2, v2, e2, k2, r2⟩ := gy.lst hd
    refine .inr (⟨l1, l2, v1, v2, e1, e2, k1, k2, by rw [r1.length, r2.length]; exact q1r m, λ q hq => p _ _ (q0h hq) ?_⟩)
    have : Cl.anew cx cy = .weak := by
     cases cx <;> cases cy <;> first | rfl | exact absurd ⟨(by intro z; cases z), (by intro z; cases z)⟩ hw
    rw [this]
    exact q4I hd hq (r1.append r2)
  ·cases h
 ·rename_i xs k
  split at h
  ·rename_i m
   cases h
   obtain ⟨l1, v1, e1, k1, r1⟩ := gx.lstC hd
   refine .inr ⟨l1, k, v1, e1, gy.int hd, k1, m.2.1, m.2.2, by rw [r1.length]; exact q1r m.1, λ q hq => p _ _ (q0h hq) (q3k hd hq (r1.rep _))⟩
  ·cases h
 ·cases h
theorem z0T {op : Operator} (ha : ∀ q, ra = some q -> PE X a (dE X.D E δ q)) (hb : ∀ q, rb = some q -> PE X b (dE X.D E δ q)) (h : (Re.thn ra λ x cx => Re.thn rb λ y cy => binD op x y cx cy) = some re) : PE X (.BinOp a op b pos) (dE X.D E δ re) :=
 q7A (λ _ _ => z6c z3D) ha hb h λ O W H0 H x y Q dx cx dy cy σ k hd gx gy p => z5b k hd gx gy p
theorem z1w (ha : ∀ q, ra = some q -> PE X a (dE X.D E δ q)) (h : (Re.thn ra λ x _ => match x with | .int i => some (.ok (.int (-i)) .strong) | _ => none) = some re) : PE X (.UnaryOp .USub a pos) (dE X.D E δ re) :=
 z0Q (λ _ => z6g z3r) ha h λ O W H0 H x Q dx cx σ k hd gx p => by
  split at k
  ·cases k; exact ⟨_, gx.int hd, p _ H (Same.refl H) q0y⟩
  ·cases k
theorem z4S {ds : List DV} {i : Int} : atD ds i = L2.atI ds i := rfl
theorem RepL.atI {D : Dm} {H : Hp} {ds : List DV} {xs : List V} {i : Int} {d : DV} (h : RepL D H ds xs) (e : atD ds i = some d) : ∃ v, L2.atI xs i = some v /\ Rep D H d v := by
 rw [z4S] at e
 unfold L2.atI at e ⊢
 rw [h.length]
 cases q : ixN ds.length i with
 | none => rw [q] at e; cases e
 | some j =>
  rw [q] at e
  exact h.get e
theorem z5z {O W : List Addr} {H0 H : Hp} {x y : V} {dx dy : DV} {cx cy : Cl} {Q : VK} {σ : St} (h : ((ixD dx dy).map λ d => Re.ok d cx.item) = some re) (hd : Hid O W H0 H) (gx : Got X.D O W H0 H dx cx x) (gy : Got X.D O W H0 H dy cy y)
  (p : Post X.D E σ O W H0 H Q re) : rIx X.K x y H Q := by
 obtain ⟨d, h1, h2⟩ := Option.map_eq_some_iff.mp h
 cases h2
 unfold ixD at h1
 split at h1
 ·rename_i ns i
  obtain ⟨a, e1, e2⟩ := q1G.mp (gx.all hd)
  obtain ⟨n, h3, h4⟩ := Option.map_eq_some_iff.mp h1
  cases h4
  have q : L2.atI (ns.map V.int) i = some (.int n) := by
   unfold L2.atI
   rw [List.length_map]
   have h3' : ((ixN ns.length i).bind λ j => ns[j]?) = some n := h3
   cases z : ixN ns.length i with
   | none => rw [z] at h3'; cases h3'
   | some j =>
    rw [z] at h3'
    have h5 : ns[j]? = some n := h3'
    show (ns.map V.int)[j]? = _
    rw [List.getElem?_map, h5]; rfl
  refine .inl ⟨a, _, i, _, e1, gy.int hd, e2.sq, q, p _ H (Same.refl H) ?_⟩
  cases cx <;> exact q0y
 ·obtain ⟨a, xs, e1, e2, e3⟩ := gx.lstC hd
  obtain ⟨v, q1, q2⟩ := e3.atI h1
  exact .inl ⟨a, xs, _, v, e1, gy.int hd, SqL.of e2, q1, p _ H (Same.refl H) (Got.item q2)⟩
 ·obtain ⟨a, xs, e1, e2, e3⟩ := gx.tupC hd
  obtain ⟨v, q1, q2⟩ := e3.atI h1
  exact .inr (.inl ⟨a, xs, _, v, e1, gy.int hd, e2, q1, p _ H (Same.refl H) (Got.item q2)⟩)
 ·rename_i z i
  obtain ⟨e1, e2⟩ := gx.str hd
  cases q : q2A z.cps.size i with
  | none => rw [q] at h1; cases h1
  | some j =>
   rw [q] at h1
   obtain ⟨ch, h3, h4⟩ := Option.map_eq_some_iff.mp (show ((z.cps[j]?).map λ c => DV.str ⟨#[c]⟩) = some d from h1)
   cases h4
   refine .inr (.inr ⟨z, i, ch, e1, gy.int hd, e2, ?_, p _ H (Same.refl H) ?_⟩)
   ·unfold L2.atI
    have : ixN z.cps.toList.length i = some j := by rw [Array.length_toList]; exact q
    rw [this]
    show z.cps.toList[j]? = some ch
    rw [Array.getElem?_toList]; exact h3
   ·have one : Rep X.D (L2.wo (O ++ W) H) (.str ⟨#[ch]⟩) (.str ⟨#[ch]⟩) := q2a.mpr ⟨rfl, by show (1 : Nat) <= sizeLine; decide⟩
    have one' : Rep X.D (L2.wo O H) (.str ⟨#[ch]⟩) (.str ⟨#[ch]⟩) := q2a.mpr ⟨rfl, by show (1 : Nat) <= sizeLine; decide⟩
    cases cx <;> first | exact one | exact one'
 ·cases h1
theorem z5f (ha : ∀ q, ra = some q -> PE X a (dE X.D E δ q)) (hb : ∀ q, rb = some q -> PE X b (dE X.D E δ q)) (hs : q1S b = false) (h : (Re.thn ra λ x cx => Re.thn rb λ y _ => (ixD x y).map λ d => .ok d cx.item) = some re) : PE X (.Subscript a b pos) (dE X.D E δ re) :=
 q7A (λ _ _ h1 h2 => z6n z4A h1 h2 (by cases b <;> first | (intro _ _; rfl) | cases hs)) ha hb h λ O W H0 H x y Q dx cx dy cy σ k hd gx gy p => z5z k hd gx gy p
theorem q4n (n d : Nat) (o : Option Int) : slIx n d o = HT.sIx n d o := by cases o <;> rfl
theorem RepL.cut {D : Dm} {H : Hp} {ds : List DV} {xs : List V} (h : RepL D H ds xs) (lo hi : Option Int) : RepL D H (cutD ds lo hi) (cutV xs lo hi) := by
 unfold cutD cutV
 rw [q4n, q4n, ← h.length]
 exact (h.drop _).take _
theorem z1B {O W : List Addr} {H0 H : Hp} {x : V} {dx : DV} {cx : Cl} {Q : VK} {σ : St} {lo hi : Option Int} (h : ((slD dx lo hi).map λ d => Re.ok d (slCl dx cx)) = some re) (hd : Hid O W H0 H) (gx : Got X.D O W H0 H dx cx x)
  (p : Post X.D E σ O W H0 H Q re) : rSlL X.K x lo hi H Q \/ rSlT X.K x lo hi H Q := by
 obtain ⟨d, h1, h2⟩ := Option.map_eq_some_iff.mp h
 cases h2
 unfold slD at h1
 split at h1
 ·rename_i ns
  cases h1
  obtain ⟨a, e1, e2⟩ := q1G.mp (gx.all hd)
  exact .inl ⟨a, _, e1, e2.sq, λ q hq => p _ _ (q0h hq) (q1x hd hq ((q1n ns).cut lo hi))⟩
 ·cases h1
  obtain ⟨a, xs, e1, e2, e3⟩ := gx.lstC hd
  exact .inl ⟨a, xs, e1, SqL.of e2, λ q hq => p _ _ (q0h hq) (q3k hd hq (e3.cut lo hi))⟩
 ·rename_i ds
  split at h1
  ·cases h1
  ·rename_i m
   cases h1
   obtain ⟨a, xs, e1, e2, e3⟩ := gx.tupC hd
   refine .inr ⟨a, xs, e1, e2, ?_, λ q hq => p _ _ (q0h hq) (z0i hd hq (e3.cut lo hi))⟩
   rw [q4n, q4n, ← e3.length] at m
   exact m
 ·cases h1
theorem q2o : SlR X (λ x lo hi H Q => rSlL X.K x lo hi H Q \/ rSlT X.K x lo hi H Q) := z1K.or z4C
theorem q4O {i : Int} {cl : Cl} (h : PE X b (dE X.D E δ (.ok (.int i) cl))) : PO X (some b) (λ σ H Q => ∃ O W, RSt X.D H σ δ O W /\ ∀ H', Same H H' -> Q (some i) H') := λ pins s σ H Q I ⟨O, W, R, p⟩ =>
 q8n h pins s σ H Q I ⟨O, W, R, λ v H' s1 g => ⟨i, g.int (R.hid.mono s1), p H' s1⟩⟩
theorem z0c {c : Str} (h : PE X b (dE X.D E δ (.ex c))) : PO X (some b) (λ σ H Q => ∃ O W, RSt X.D H σ δ O W /\ Post X.D E σ O W H H (λ _ _ => False) (.ex c)) := λ pins s σ H Q I ⟨O, W, R, p⟩ =>
 q8n h pins s σ H Q I ⟨O, W, R, p⟩
theorem q2C {o : Option Expr} : PO X o (λ _ _ _ => False) := λ _ _ _ _ _ _ h => h.elim
theorem z2g {p2 : Pos} (ha : ∀ q, ra = some q -> PE X a (dE X.D E δ q)) (hb : ∀ q, rb = some q -> PE X b (dE X.D E δ q)) (h : (Re.thn ra λ x cx => Re.thn rb λ l _ => match l with
  | .int l => (slD x (some l) none).map λ d => .ok d (slCl x cx) | _ => none) = some re) : PE X (.Subscript a (.Slice (some b) none none p2) pos) (dE X.D E δ re) := by
 cases hra : ra with
 | none => rw [hra] at h; cases h
 | some q =>
  rw [hra] at h
  have A := ha q hra
  cases q with
  | ex c => cases h; exact (q1d q2o A q2C q2U).weak λ σ H Q ⟨O, W, R, p⟩ => ⟨O, W, R, p⟩
  | ok dx cx =>
   cases hrb : rb with
   | none => rw [hrb] at h; cases h
   | some q =>
    rw [hrb] at h
    have B := hb q hrb
    cases q with
    | ex c => cases h; exact (q1d q2o A (z0c B) q2U).weak λ σ H Q ⟨O, W, R, p⟩ => ⟨O, W, R, λ x H1 s1 g1 => ⟨O, W, R.mono s1, λ H' C m s => p H' C m (s1.trans s)⟩⟩
    | ok dy cy =>
     have h' : (match (generalizing := false) dy with | .int l => (slD dx (some l) none).map λ d => Re.ok d (slCl dx cx) | _ => none) = some re := h
     split at h'
     ·rename_i l
      exact (q1d q2o A (q4O B) q2U).weak λ σ H Q ⟨O, W, R, p⟩ => ⟨O, W, R, λ x H1 s1 g1 => ⟨O, W, R.mono s1, λ H2 s2 => z1B h' ((R.hid.mono s1).mono s2) (g1.mono s2) (p.step (s1.trans s2))⟩⟩
     ·cases h'
theorem z2o {p2 : Pos} (ha : ∀ q, ra = some q -> PE X a (dE X.D E δ q)) (hb : ∀ q, rb = some q -> PE X b (dE X.D E δ q)) (h : (Re.thn ra λ x cx => Re.thn rb λ l _ => match l with
  | .int l => (slD x none (some l)).map λ d => .ok d (slCl x cx) | _ => none) = some re) : PE X (.Subscript a (.Slice none (some b) none p2) pos) (dE X.D E δ re) := by
 cases hra : ra with
 | none => rw [hra] at h; cases h
 | some q =>
  rw [hra] at h
  have A := ha q hra
  cases q with
  | ex c => cases h; exact (q1d q2o A q2U q2C).weak λ σ H Q ⟨O, W, R, p⟩ => ⟨O, W, R, p⟩
  | ok dx cx =>
   cases hrb : rb with
   | none => rw [hrb] at h; cases h
   | some q =>
    rw [hrb] at h
    have B := hb q hrb
    cases q with
    | ex c => cases h; exact (q1d q2o A q2U (z0c B)).weak λ σ H Q ⟨O, W, R, p⟩ => ⟨O, W, R, λ x H1 s1 g1 => ⟨O, W, R.mono s1, λ H' C m s => p H' C m (s1.trans s)⟩⟩
    | ok dy cy =>
     have h' : (match (generalizing := false) dy with | .int l => (slD dx none (some l)).map λ d => Re.ok d (slCl dx cx) | _ => none) = some re := h
     split at h'
     ·rename_i l
      exact (q1d q2o A q2U (q4O B)).weak λ σ H Q ⟨O, W, R, p⟩ => ⟨O, W, R, λ x H1 s1 g1 => ⟨O, W, R.mono s1, λ H2 s2 => z1B h' ((R.hid.mono s1).mono s2) (g1.mono s2) (p.step (s1.trans s2))⟩⟩
     ·cases h'
theorem z3B {p2 : Pos} {rc : Option Re} (ha : ∀ q, ra = some q -> PE X a (dE X.D E δ q)) (hb : ∀ q, rb = some q -> PE X b (dE X.D E δ q)) (hc : ∀ q, rc = some q -> PE X c (dE X.D E δ q)) (h : (Re.thn ra λ x cx => Re.thn rb λ l _ => match l with
  | .int l => Re.thn rc λ u _ => (match u with
   | .int u => (slD x (some l) (some u)).map λ d => .ok d (slCl x cx) | _ => none) | _ => none) = some re) : PE X (.Subscript a (.Slice (some b) (some c) none p2) pos) (dE X.D E δ re) := by
 cases hra : ra with
 | none => rw [hra] at h; cases h
 | some q =>
  rw [hra] at h
  have A := ha q hra
  cases q with
  | ex c => cases h; exact (q1d q2o A q2C q2C).weak λ σ H Q ⟨O, W, R, p⟩ => ⟨O, W, R, p⟩
  | ok dx cx =>
   cases hrb : rb with
   | none => rw [hrb] at h; cases h
   | some q =>
    rw [hrb] at h
    have B := hb q hrb
    cases q with
    | ex c => cases h; exact (q1d q2o A (z0c B) q2C).weak λ σ H Q ⟨O, W, R, p⟩ => ⟨O, W, R, λ x H1 s1 g1 => ⟨O, W, R.mono s1, λ H' C m s => p H' C m (s1.trans s)⟩⟩
    | ok dy cy =>
     have h' : (match (generalizing := false) dy with | .int l => Re.thn rc λ u _ => (match u with | .int u => (slD dx (some l) (some u)).map λ d => Re.ok d (slCl dx cx) | _ => none) | _ => none) = some re := h
     split at h'
     ·rename_i l
      cases hrc : rc with
      | none => rw [hrc] at h'; cases h'
      | some q =>
       rw [hrc] at h'
       have C := hc q hrc
       cases q with
       | ex c' =>
        cases h'
        exact (q1d q2o A (q4O B) (z0c C)).weak λ σ H Q ⟨O, W, R, p⟩ => ⟨O, W, R, λ x H1 s1 g1 => ⟨O, W, R.mono s1, λ H2 s2 => ⟨O, W, (R.mono s1).mono s2, λ H' C m s => p H' C m (s1.trans (s2.trans s))⟩⟩⟩
       | ok dz cz =>
        have h2 : (match (generalizing := false) dz with | .int u => (slD dx (some l) (some u)).map λ d => Re.ok d (slCl dx cx) | _ => none) = some re := h'
        split at h2
        ·rename_i u
         exact (q1d q2o A (q4O B) (q4O C)).weak λ σ H Q ⟨O, W, R, p⟩ => ⟨O, W, R, λ x H1 s1 g1 => ⟨O, W, R.mono s1, λ H2 s2 => ⟨O, W, (R.mono s1).mono s2, λ H3 s3 => z1B h2 (((R.hid.mono s1).mono s2).mono s3) ((g1.mono s2).mono s3) (p.step (s1.trans (s2.trans s3)))⟩⟩⟩
        ·cases h2
     ·cases h'
end
end L2
end
section
namespace L2
open PySem PySem.Spec PyProof.Rows
mutual
noncomputable def toP : DV -> PyData
 | .non => .none | .bl b => .bool b | .int i => .int i | .str x => .str x
 | .tup ds => .tuple (toPs ds) | .lst ds => .list (toPs ds)
 | _ => .none
noncomputable def toPs : List DV -> List PyData
 | [] => []
 | d :: r => toP d :: toPs r
end
mutual
theorem q5N : ∀ (n m : Nat) (d e : DV), d.plain n = true -> e.plain m = true -> PyData.eqv (toP d) (toP e) = deq d e
 | n, m, .non, e, _, h => by cases e <;> first | (cases m <;> simp [DV.plain] at h; done) | (simp only [toP, PyData.eqv, deq])
 | n, m, .bl _, e, _, h => by cases e <;> first | (cases m <;> simp [DV.plain] at h; done) | (simp only [toP, PyData.eqv, deq])
 | n, m, .int _, e, _, h => by cases e <;> first | (cases m <;> simp [DV.plain] at h; done) | (simp only [toP, PyData.eqv, deq])
 | n, m, .str x, e, _, h => by
  cases e with
  | str y => simp only [toP, PyData.eqv, deq]; rfl
  | non => simp only [toP, PyData.eqv, deq]
  | bl _ => simp only [toP, PyData.eqv, deq]
  | int _ => simp only [toP, PyData.eqv, deq]
  | tup _ => simp only [toP, PyData.eqv, deq]
  | lst _ => simp only [toP, PyData.eqv, deq]
  | dct _ _ => cases m <;> simp [DV.plain] at h
  | exc _ => cases m <;> simp [DV.plain] at h
  | fn _ => cases m <;> simp [DV.plain] at h
  | scr _ => cases m <;> simp [DV.plain] at h
 | 0, _, .tup _, _, h, _ => by simp [DV.plain] at h
 | 0, _, .lst _, _, h, _ => by simp [DV.plain] at h
 | n + 1, m, .tup ds, e, h, h' => by
  cases e with
  | tup es =>
   cases m with
   | zero => simp [DV.plain] at h'
   | succ m =>
    simp only [toP, PyData.eqv, deq]
    exact q4p n m ds es (by simpa [DV.plain] using h) (by simpa [DV.plain] using h')
  | non => simp only [toP, PyData.eqv, deq]
  | bl _ => simp only [toP, PyData.eqv, deq]
  | int _ => simp only [toP, PyData.eqv, deq]
  | str _ => simp only [toP, PyData.eqv, deq]
  | lst _ => simp only [toP, PyData.eqv, deq]
  | dct _ _ => cases m <;> simp [DV.plain] at h'
  | exc _ => cases m <;> simp [DV.plain] at h'
  | fn _ => cases m <;> simp [DV.plain] at h'
  | scr _ => cases m <;> simp [DV.plain] at h'
 | n + 1, m, .lst ds, e, h, h' => by
  cases e with
  | lst es =>
   cases m with
   | zero => simp [DV.plain] at h'
   | succ m =>
    simp only [toP, PyData.eqv, deq]
    exact q4p n m ds es (by simpa [DV.plain] using h) (by simpa [DV.plain] using h')
  | non => simp only [toP, PyData.eqv, deq]
  | bl _ => simp only [toP, PyData.eqv, deq]
  | int _ => simp only [toP, PyData.eqv, deq]
  | str _ => simp only [toP, PyData.eqv, deq]
  | tup _ => simp only [toP, PyData.eqv, deq]
  | dct _ _ => cases m <;> simp [DV.plain] at h'
  | exc _ => cases m <;> simp [DV.plain] at h'
  | fn _ => cases m <;> simp [DV.plain] at h'
  | scr _ => cases m <;> simp [DV.plain] at h'
 | n, _, .dct _ _, _, h, _ => by cases n <;> simp [DV.plain] at h
 | n, _, .exc _, _, h, _ => by cases n <;> simp [DV.plain] at h
 | n, _, .fn _, _, h, _ => by cases n <;> simp [DV.plain] at h
 | n, _, .scr _, _, h, _ => by cases n <;> simp [DV.plain] at h
theorem q4p : ∀ (n m : Nat) (ds es : List DV), DV.plains n ds = true -> DV.plains m es = true -> PyData.eqvAll (toPs ds) (toPs es) = deqs ds es
 | _, _, [], [], _, _ => by simp only [toPs, PyData.eqvAll, deqs]
 | _, _, [], _ :: _, _, _ => by simp only [toPs, PyData.eqvAll, deqs]
 | _, _, _ :: _, [], _, _ => by simp only [toPs, PyData.eqvAll, deqs]
 | n, m, d :: ds, e :: es, h, h' => by
  simp only [DV.plains, Bool.and_eq_true] at h h'
  simp only [toPs, PyData.eqvAll, deqs, q5N n m d e h.1 h'.1, q4p n m ds es h.2 h'.2]
end
mutual
theorem q7K : ∀ (n : Nat) (d : DV), d.plain n = true -> (toP d).canLay0 = true /\ (toP d).depth <= n
 | n, .non, _ => by simp [toP, PyData.canLay0, PyData.depth]
 | n, .bl _, _ => by simp [toP, PyData.canLay0, PyData.depth]
 | n, .int _, _ => by simp [toP, PyData.canLay0, PyData.depth]
 | n, .str x, h => by
  have h' : (x.cps.all (· < 0x110000)) = true := by cases n <;> simpa [DV.plain] using h
  simp only [toP, PyData.canLay0, PyData.depth]
  exact ⟨h', Nat.zero_le _⟩
 | 0, .tup _, h => by simp [DV.plain] at h
 | 0, .lst _, h => by simp [DV.plain] at h
 | n + 1, .tup ds, h => by
  have q := q4L n ds (by simpa [DV.plain] using h)
  simp only [toP, PyData.canLay0, PyData.depth, q.1, true_and]
  have := q.2
  omega
 | n + 1, .lst ds, h => by
  have q := q4L n ds (by simpa [DV.plain] using h)
  simp only [toP, PyData.canLay0, PyData.depth, q.1, true_and]
  have := q.2
  omega
 | n, .dct _ _, h => by cases n <;> simp [DV.plain] at h
 | n, .exc _, h => by cases n <;> simp [DV.plain] at h
 | n, .fn _, h => by cases n <;> simp [DV.plain] at h
 | n, .scr _, h => by cases n <;> simp [DV.plain] at h
theorem q4L : ∀ (n : Nat) (ds : List DV), DV.plains n ds = true -> PyData.canLayAll0 (toPs ds) = true /\ PyData.depthAll (toPs ds) <= n
 | _, [], _ => by simp [toPs, PyData.canLayAll0, PyData.depthAll]
 | n, d :: ds, h => by
  simp only [DV.plains, Bool.and_eq_true] at h
  have q := q7K n d h.1
  have q' := q4L n ds h.2
  simp only [toPs, PyData.canLayAll0, PyData.depthAll, q.1, q'.1, Bool.and_self, true_and]
  have a := q.2
  have b := q'.2
  omega
end
section
variable {X : Cx} {pins : List (Addr × Obj)} {σ : St} {H : Hp} {s : Shared}
mutual
theorem q2N (I : Inv X pins σ H s) : ∀ (n : Nat) {d : DV} {v : V} {u : Value}, d.plain n = true -> Rep X.D H d v -> RelV v u -> ∃ as, Reads s.heap u (toP d) as
 | _, .non, _, _, _, h, r => by rw [q3O.mp h] at r; cases r; exact ⟨_, Reads.none⟩
 | _, .bl b, _, _, _, h, r => by rw [q3p.mp h] at r; cases r; exact ⟨_, Reads.bool b⟩
 | _, .int i, _, _, _, h, r => by rw [q0A.mp h] at r; obtain ⟨t, rfl⟩ := r; exact ⟨_, Reads.int i t⟩
 | _, .str x, _, _, _, h, r => by rw [(q2a.mp h).1] at r; obtain ⟨t, rfl⟩ := r; exact ⟨_, Reads.str x t⟩
 | 0, .tup _, _, _, p, _, _ => by simp [DV.plain] at p
 | 0, .lst _, _, _, p, _, _ => by simp [DV.plain] at p
 | n + 1, .tup ds, _, _, p, h, r => by
  obtain ⟨a, xs, e1, e2, e3⟩ := q0z.mp h
  rw [e1] at r; cases r
  obtain ⟨its, rv, ⟨o, h1, h2, k, h3⟩, _⟩ := I.tuple e2
  obtain ⟨as, q⟩ := q3F I n (by simpa [DV.plain] using p) e3 rv
  rw [toP]
  exact ⟨as, Reads.tuple h1 h2 h3 (by simpa using q)⟩
 | n + 1, .lst ds, _, _, p, h, r => by
  obtain ⟨a, xs, e1, e2, e3⟩ := q0u.mp h
  rw [e1] at r; cases r
  obtain ⟨_, its, k, rv, _, h1⟩ := I.lstM e2
  obtain ⟨as, q⟩ := q3F I n (by simpa [DV.plain] using p) e3 rv
  rw [toP]
  exact ⟨_, Reads.list h1 rfl rfl (by simpa using q)⟩
 | n, .dct _ _, _, _, h, _, _ => by cases n <;> simp [DV.plain] at h
 | n, .exc _, _, _, h, _, _ => by cases n <;> simp [DV.plain] at h
 | n, .fn _, _, _, h, _, _ => by cases n <;> simp [DV.plain] at h
 | n, .scr _, _, _, h, _, _ => by cases n <;> simp [DV.plain] at h
theorem q3F (I : Inv X pins σ H s) : ∀ (n : Nat) {ds : List DV} {vs : List V} {us : List Value}, DV.plains n ds = true -> RepL X.D H ds vs -> Vals vs us -> ∃ as, ReadsAll s.heap us (toPs ds) as
 | _, [], _, _, _, h, r => by rw [q0q.mp h] at r; cases r; exact ⟨_, ReadsAll.nil⟩
 | n, d :: ds, _, _, p, h, r => by
  simp only [DV.plains, Bool.and_eq_true] at p
  obtain ⟨v, vs, e1, e2, e3⟩ := q0e.mp h
  subst e1
  cases r with
  | cons r1 r2 =>
   obtain ⟨as, q⟩ := q2N I n p.1 e2 r1
   obtain ⟨bs, q'⟩ := q3F I n p.2 e3 r2
   rw [toPs]
   exact ⟨_, ReadsAll.cons q q'⟩
end
theorem q2F {d : DV} (h : d.plain 60 = true) : SeqAt.shaped (toP d) = true := by
 have q := q7K 60 d h
 unfold SeqAt.shaped
 rw [q.1, Bool.true_and]
 exact decide_eq_true (Nat.le_trans q.2 (by decide))
end
section
variable {X : Cx} {E : St -> XK} {δ : List Sv} {a b c e : Expr} {pos : Pos} {ra rb rc : Option Re} {re : Re}
noncomputable def cmpR (X : Cx) (op : CmpOp) : R2 := λ x y H Q => ∃ dx dy k, cmpD op dx dy = some k /\ Rep X.D H dx x /\ Rep X.D H dy y /\ Q (.bl k) H
theorem z0x {op : CmpOp} (hu : X.A.units + 64 < cLine) : OpR X (compareOp op) (cmpR X op) := by
 intro pins s σ H x y v u Q I rx ry h
 obtain ⟨dx, dy, k, hk, r1, r2, q⟩ := h
 have fin : ∀ {k' : Bool}, k' = k -> EP X pins σ Q (.bool k') s := λ {k'} e => ⟨.bl k', H, I, rfl, by rw [e]; exact q⟩
 unfold cmpD at hk
 split at hk
 ·cases hk; exact z6e pins s σ H x y v u Q I rx ry ⟨_, _, q0A.mp r1, q0A.mp r2, q⟩
 ·cases hk; exact z5o pins s σ H x y v u Q I rx ry ⟨_, _, q0A.mp r1, q0A.mp r2, q⟩
 ·split at hk
  ·rename_i p
   rw [Bool.and_eq_true] at p
   cases hk
   obtain ⟨as, q1⟩ := q2N I 60 p.1 r1 rx
   obtain ⟨bs, q2⟩ := q2N I 60 p.2 r2 ry
   exact eq_dataH q1 q2 (q2F p.1) (q2F p.2) hu (fin (q5N 60 60 _ _ p.1 p.2))
  ·cases hk
 ·split at hk
  ·rename_i p
   rw [Bool.and_eq_true] at p
   cases hk
   obtain ⟨as, q1⟩ := q2N I 60 p.1 r1 rx
   obtain ⟨bs, q2⟩ := q2N I 60 p.2 r2 ry
   exact ne_dataH q1 q2 (q2F p.1) (q2F p.2) hu (fin (by rw [q5N 60 60 _ _ p.1 p.2]))
  ·cases hk
 ·cases hk
theorem q4R {op : CmpOp} {b : Expr} (h : q3f b = false) : behindInMarks op b = false := by
 cases b <;> first | rfl | cases h
theorem z0U {op : CmpOp} (hu : X.A.units + 64 < cLine) (ha : ∀ q, ra = some q -> PE X a (dE X.D E δ q)) (hb : ∀ q, rb = some q -> PE X b (dE X.D E δ q)) (hs : q3f b = false)
  (h : (Re.thn ra λ x _ => Re.thn rb λ y _ => (cmpD op x y).map λ k => .ok (.bl k) .strong) = some re) : PE X (.Compare a [op] [b] pos) (dE X.D E δ re) :=
 q7A (λ _ _ h1 h2 => z2Z (z0x hu) h1 h2 (q4R hs)) ha hb h λ O W H0 H x y Q dx cx dy cy σ k hd gx gy p => by
  obtain ⟨k', e1, e2⟩ := Option.map_eq_some_iff.mp k
  cases e2
  exact ⟨dx, dy, k', e1, gx.all hd, gy.all hd, p _ H (Same.refl H) q4e⟩
theorem q8i {op : CmpOp} (ha : ∀ q, ra = some q -> PE X a (dE X.D E δ q)) (hb : ∀ q, rb = some q -> PE X b (dE X.D E δ q))
  (h : (Re.thn ra λ x _ => Re.thn rb λ y _ => (cmpD op x y).map λ k => .ok (.bl k) .strong) = some re) : ∃ ta tb, PE X a ta /\ PE X b tb /\ ∀ σ H Q, dE X.D E δ re σ H Q -> tOp (cmpR X op) ta tb σ H Q :=
 q6o ha hb h λ O W H0 H x y Q dx cx dy cy σ k hd gx gy p => by
  obtain ⟨k', e1, e2⟩ := Option.map_eq_some_iff.mp k
  cases e2
  exact ⟨dx, dy, k', e1, gx.all hd, gy.all hd, p _ H (Same.refl H) q4e⟩
theorem z3x {r : Rt} {σ : St} {H : Hp} {Q : Bool -> Hp -> Prop} (hb : ∀ d c, re = .ok d c -> ∃ k, d = .bl k) (h : tstD (some re) = some r) (q : dT X.D E δ r σ H Q) : dE X.D E δ re σ H (λ x H' => ∃ k, x = .bl k /\ Q k H') := by
 obtain ⟨O, W, R, p⟩ := q
 cases re with
 | ex c => cases h; exact ⟨O, W, R, p⟩
 | ok d c =>
  obtain ⟨k, rfl⟩ := hb d c rfl
  cases h
  exact ⟨O, W, R, λ v H' s g => ⟨k, g.bl (R.hid.mono s), p H' s⟩⟩
theorem z3w {op : CmpOp} (h : (Re.thn ra λ x _ => Re.thn rb λ y _ => (cmpD op x y).map λ k => .ok (.bl k) .strong) = some re) : ∀ d c, re = .ok d c -> ∃ k, d = .bl k := by
 intro d c e
 subst e
 cases ra with
 | none => cases h
 | some q =>
  cases q with
  | ex c => cases h
  | ok d c =>
   cases rb with
   | none => cases h
   | some q =>
    cases q with
    | ex c => cases h
    | ok d' c' =>
     obtain ⟨k, _, e⟩ := Option.map_eq_some_iff.mp (show ((cmpD op d d').map λ k => Re.ok (.bl k) .strong) = _ from h)
     cases e
     exact ⟨k, rfl⟩
theorem z0j {op : CmpOp} {r : Rt} (hu : X.A.units + 64 < cLine) (ha : ∀ q, ra = some q -> PE X a (dE X.D E δ q)) (hb : ∀ q, rb = some q -> PE X b (dE X.D E δ q)) (hs : q3f b = false)
  (h : tstD (Re.thn ra λ x _ => Re.thn rb λ y _ => (cmpD op x y).map λ k => .ok (.bl k) .strong) = some r) : PT X (.Compare a [op] [b] pos) (dT X.D E δ r) := by
 cases q : (Re.thn ra λ x _ => Re.thn rb λ y _ => (cmpD op x y).map λ k => Re.ok (.bl k) .strong) with
 | none => rw [q] at h; cases h
 | some re =>
  rw [q] at h
  obtain ⟨ta, tb, A, B, w⟩ := q8i ha hb q
  exact (z1d (z0x hu) A B (q4R hs)).weak λ σ H Q z => w σ H _ (z3x (z3w q) h z)
end
section
variable {X : Cx} {E : St -> XK} {δ : List Sv} {a b c e : Expr} {es : List Expr} {pos : Pos} {ra : Option Re} {rt ru : Option Rt} {r : Rt} {re : Re}
theorem q3W {D : Dm} {H : Hp} {d : DV} {v : V} {k : Bool} (h : q1Y d = some k) (r : Rep D H d v) : TruV D.K v H k := by
 cases d with
 | non => cases h; rw [q3O.mp r]; rfl
 | bl b => cases h; rw [q3p.mp r]; rfl
 | int i => cases h; rw [q0A.mp r]; rfl
 | str x =>
  cases h
  obtain ⟨e1, e2⟩ := q2a.mp r
  rw [e1]
  refine ⟨e2, ?_⟩
  show (x.cps.size != 0) = (((x.cps.size : Nat) : Int) != 0)
  cases x.cps.size with
  | zero => rfl
  | succ n => simp only [bne, Nat.add_eq_zero_iff]; rw [Bool.eq_iff_iff]; simp; omega
 | tup ds =>
  cases h
  obtain ⟨a, xs, e1, e2, e3⟩ := q0z.mp r
  rw [e1]
  refine .inr (.inl ⟨xs, e2, ?_⟩)
  have := e3.length
  cases xs <;> cases ds <;> first | rfl | cases this
 | lst ds =>
  cases h
  obtain ⟨a, xs, e1, e2, e3⟩ := q0u.mp r
  rw [e1]
  refine .inl ⟨xs, SqL.of e2, ?_⟩
  have := e3.length
  cases xs <;> cases ds <;> first | rfl | cases this
 | dct _ _ => cases h
 | exc _ => cases h
 | fn _ => cases h
 | scr _ => cases h
theorem q7W (ha : ∀ q, ra = some q -> PE X e (dE X.D E δ q)) (he : ∀ whole, isTrue e X.env whole = (do let v ← whole; standAt e.pos; holding [v] (truthy v))) (h : tstD ra = some r) : PT X e (dT X.D E δ r) := by
 cases hra : ra with
 | none => rw [hra] at h; cases h
 | some q =>
  rw [hra] at h
  have A := ha q hra
  cases q with
  | ex c => cases h; exact (q6g A he).weak λ σ H Q ⟨O, W, R, p⟩ => ⟨O, W, R, p⟩
  | ok d cl =>
   obtain ⟨k, e1, e2⟩ := Option.map_eq_some_iff.mp (show (q1Y d).map Rt.ok = some r from h)
   cases e2
   exact (q6g A he).weak λ σ H Q ⟨O, W, R, p⟩ => ⟨O, W, R, λ x H1 s1 g1 => ⟨k, q3W e1 (g1.all (R.hid.mono s1)), p H1 s1⟩⟩
theorem z2j {ta : TE} (ha : PE X a ta) : PE X (.UnaryOp .Not a pos) (tUn (λ x H Q => ∃ k, TruV X.K x H k /\ Q (.bl (!k)) H) ta) := by
 intro pins s σ H Q I h
 refine UnaryOp_ (thn (ha pins s σ H _ I h) λ v s1 ⟨x, H1, I1, r1, q1⟩ => ?_)
 obtain ⟨k, t, q1⟩ := q1
 exact not_of (thn (q6a pins s1 σ H1 x v (λ b H' => b = k /\ H' = H1) I1 r1 ⟨k, t, rfl, rfl⟩) λ b s2 ⟨H2, I2, e1, e2⟩ => by
  subst e1 e2
  exact ⟨.bl (!b), H2, I2, rfl, q1⟩)
theorem z1Z (ha : ∀ q, ra = some q -> PE X a (dE X.D E δ q)) (h : (Re.thn ra λ x _ => (q1Y x).map λ k => .ok (.bl (!k)) .strong) = some re) : PE X (.UnaryOp .Not a pos) (dE X.D E δ re) :=
 z0Q (λ _ => z2j) ha h λ O W H0 H x Q dx cx σ k hd gx p => by
  obtain ⟨b, e1, e2⟩ := Option.map_eq_some_iff.mp k
  cases e2
  exact ⟨b, q3W e1 (gx.all hd), p _ H (Same.refl H) q4e⟩
theorem q5F {ta tb : TE} (ha : PE X a ta) (hb : PE X (.BoolOp .And (b :: es) pos) tb) : PE X (.BoolOp .And (a :: b :: es) pos) (λ σ H Q => ta σ H λ x H1 => ∃ k, TruV X.K x H1 k /\ if k = true then tb σ H1 Q else Q x H1) := by
 intro pins s σ H Q I h
 refine BoolOp_and (thn (ha pins s σ H _ I h) λ v s1 ⟨x, H1, I1, r1, q1⟩ => ?_)
 obtain ⟨k, t, q1⟩ := q1
 refine thn (q6a pins s1 σ H1 x v (λ b H' => b = k /\ H' = H1) I1 r1 ⟨k, t, rfl, rfl⟩) λ c s2 ⟨H2, I2, e1, e2⟩ => ?_
 subst e1 e2
 cases c with
 | true => exact hb pins s2 σ H2 Q I2 q1
 | false => exact ⟨x, H2, I2, r1, q1⟩
theorem q9a {ta tb : TE} (ha : PE X a ta) (hb : PE X (.BoolOp .Or (b :: es) pos) tb) : PE X (.BoolOp .Or (a :: b :: es) pos) (λ σ H Q => ta σ H λ x H1 => ∃ k, TruV X.K x H1 k /\ if k = true then Q x H1 else tb σ H1 Q) := by
 intro pins s σ H Q I h
 refine BoolOp_or (thn (ha pins s σ H _ I h) λ v s1 ⟨x, H1, I1, r1, q1⟩ => ?_)
 obtain ⟨k, t, q1⟩ := q1
 refine thn (q6a pins s1 σ H1 x v (λ b H' => b = k /\ H' = H1) I1 r1 ⟨k, t, rfl, rfl⟩) λ c s2 ⟨H2, I2, e1, e2⟩ => ?_
 subst e1 e2
 cases c with
 | false => exact hb pins s2 σ H2 Q I2 q1
 | true => exact ⟨x, H2, I2, r1, q1⟩
theorem z2X {rb : Option Re} (ha : ∀ q, ra = some q -> PE X a (dE X.D E δ q)) (hb : ∀ q, rb = some q -> PE X (.BoolOp .And (b :: es) pos) (dE X.D E δ q)) (h : (Re.thn ra λ x c => andD x c rb) = some re) : PE X (.BoolOp .And (a :: b :: es) pos) (dE X.D E δ re) := by
 cases hra : ra with
 | none => rw [hra] at h; cases h
 | some q =>
  rw [hra] at h
  have A := ha q hra
  cases q with
  | ex c => cases h; exact (q5F A q1u).weak λ σ H Q ⟨O, W, R, p⟩ => ⟨O, W, R, p⟩
  | ok d cl =>
   have h' : andD d cl rb = some re := h
   unfold andD at h'
   split at h'
   ·cases h'
   ·rename_i t
    exact (q5F A (hb re h')).weak λ σ H Q ⟨O, W, R, p⟩ => ⟨O, W, R, λ x H1 s1 g1 => ⟨true, q3W t (g1.all (R.hid.mono s1)), iteT ⟨O, W, R.mono s1, p.later s1 s1⟩⟩⟩
   ·rename_i t
    cases h'
    exact (q5F A q1u).weak λ σ H Q ⟨O, W, R, p⟩ => ⟨O, W, R, λ x H1 s1 g1 => ⟨false, q3W t (g1.all (R.hid.mono s1)), iteF (p _ H1 s1 g1)⟩⟩
theorem z3u {rb : Option Re} (ha : ∀ q, ra = some q -> PE X a (dE X.D E δ q)) (hb : ∀ q, rb = some q -> PE X (.BoolOp .Or (b :: es) pos) (dE X.D E δ q)) (h : (Re.thn ra λ x c => orD x c rb) = some re) : PE X (.BoolOp .Or (a :: b :: es) pos) (dE X.D E δ re) := by
 cases hra : ra with
 | none => rw [hra] at h; cases h
 | some q =>
  rw [hra] at h
  have A := ha q hra
  cases q with
  | ex c => cases h; exact (q9a A q1u).weak λ σ H Q ⟨O, W, R, p⟩ => ⟨O, W, R, p⟩
  | ok d cl =>
   have h' : orD d cl rb = some re := h
   unfold orD at h'
   split at h'
   ·cases h'
   ·rename_i t
    cases h'
    exact (q9a A q1u).weak λ σ H Q ⟨O, W, R, p⟩ => ⟨O, W, R, λ x H1 s1 g1 => ⟨true, q3W t (g1.all (R.hid.mono s1)), iteT (p _ H1 s1 g1)⟩⟩
   ·rename_i t
    exact (q9a A (hb re h')).weak λ σ H Q ⟨O, W, R, p⟩ => ⟨O, W, R, λ x H1 s1 g1 => ⟨false, q3W t (g1.all (R.hid.mono s1)), iteF ⟨O, W, R.mono s1, p.later s1 s1⟩⟩⟩
theorem q5R {k : DV -> Cl -> Option Re} (h : tstD (Re.thn ra k) = some r) : (ra = none /\ False) \/ (∃ c, ra = some (.ex c) /\ r = .ex c) \/ ∃ d c, ra = some (.ok d c) /\ tstD (k d c) = some r := by
 cases hra : ra with
 | none => rw [hra] at h; cases h
 | some q =>
  rw [hra] at h
  cases q with
  | ex c => cases h; exact .inr (.inl ⟨c, rfl, rfl⟩)
  | ok d c => exact .inr (.inr ⟨d, c, rfl, h⟩)
theorem z0P {d : DV} {c : Cl} {r : Rt} (h : tstD (some (.ok d c)) = some r) : ∃ k, q1Y d = some k /\ r = .ok k := by
 obtain ⟨k, e1, e2⟩ := Option.map_eq_some_iff.mp (show (q1Y d).map Rt.ok = some r from h)
 exact ⟨k, e1, e2.symm⟩
theorem q9u (ha : ∀ q, tstD ra = some q -> PT X a (dT X.D E δ q)) (h : tstD (Re.thn ra λ x _ => (q1Y x).map λ k => .ok (.bl (!k)) .strong) = some r) : PT X (.UnaryOp .Not a pos) (dT X.D E δ r) := by
 rcases q5R h with ⟨_, z⟩ | ⟨c, e1, e2⟩ | ⟨d, c, e1, e2⟩
 ·exact z.elim
 ·subst e1 e2
  exact (z0M (ha (.ex c) rfl)).weak λ σ H Q ⟨O, W, R, p⟩ => ⟨O, W, R, p⟩
 ·cases t : q1Y d with
  | none => rw [t] at e2; cases e2
  | some k =>
   rw [t] at e2
   cases e2
   have A := ha (.ok k) (by rw [e1]; show (q1Y d).map Rt.ok = _; rw [t]; rfl)
   exact (z0M A).weak λ σ H Q ⟨O, W, R, p⟩ => ⟨O, W, R, λ H1 s1 => p H1 s1⟩
theorem q9m {rb : Option Re} (ha : ∀ q, tstD ra = some q -> PT X a (dT X.D E δ q)) (hb : ∀ q, tstD rb = some q -> PW X (.BoolOp .And (b :: es) pos) (dT X.D E δ q)) (h : tstD (Re.thn ra λ x c => andD x c rb) = some r) : PW X (.BoolOp .And (a :: b :: es) pos) (dT X.D E δ r) := by
 rcases q5R h with ⟨_, z⟩ | ⟨c, e1, e2⟩ | ⟨d, c, e1, e2⟩
 ·exact z.elim
 ·subst e1 e2
  exact (q7N (ha (.ex c) rfl) q4w).weak λ σ H Q ⟨O, W, R, p⟩ => ⟨O, W, R, p⟩
 ·unfold andD at e2
  cases t : q1Y d with
  | none => rw [t] at e2; cases e2
  | some k =>
   rw [t] at e2
   have A := ha (.ok k) (by rw [e1]; show (q1Y d).map Rt.ok = _; rw [t]; rfl)
   cases k with
   | true => exact (q7N A (hb r e2)).weak λ σ H Q ⟨O, W, R, p⟩ => ⟨O, W, R, λ H1 s1 => iteT ⟨O, W, R.mono s1, p.later s1⟩⟩
   | false =>
    obtain ⟨k, t', rfl⟩ := z0P e2
    rw [t] at t'; cases t'
    exact (q7N A q4w).weak λ σ H Q ⟨O, W, R, p⟩ => ⟨O, W, R, λ H1 s1 => iteF (p H1 s1)⟩
theorem z2B {rb : Option Re} (ha : ∀ q, tstD ra = some q -> PT X a (dT X.D E δ q)) (hb : ∀ q, tstD rb = some q -> PW X (.BoolOp .Or (b :: es) pos) (dT X.D E δ q)) (h : tstD (Re.thn ra λ x c => orD x c rb) = some r) : PW X (.BoolOp .Or (a :: b :: es) pos) (dT X.D E δ r) := by
 rcases q5R h with ⟨_, z⟩ | ⟨c, e1, e2⟩ | ⟨d, c, e1, e2⟩
 ·exact z.elim
 ·subst e1 e2
  exact (z2x (ha (.ex c) rfl) q4w).weak λ σ H Q ⟨O, W, R, p⟩ => ⟨O, W, R, p⟩
 ·unfold orD at e2
  cases t : q1Y d with
  | none => rw [t] at e2; cases e2
  | some k =>
   rw [t] at e2
   have A := ha (.ok k) (by rw [e1]; show (q1Y d).map Rt.ok = _; rw [t]; rfl)
   cases k with
   | false => exact (z2x A (hb r e2)).weak λ σ H Q ⟨O, W, R, p⟩ => ⟨O, W, R, λ H1 s1 => iteF ⟨O, W, R.mono s1, p.later s1⟩⟩
   | true =>
    obtain ⟨k, t', rfl⟩ := z0P e2
    rw [t] at t'; cases t'
    exact (z2x A q4w).weak λ σ H Q ⟨O, W, R, p⟩ => ⟨O, W, R, λ H1 s1 => iteT (p H1 s1)⟩
theorem q0i {e : Expr} {es : List Expr} {env : Env} (h : q0k e = false) : starEach (e :: es) env = (false, eval e env) :: starEach es env := by
 cases e <;> first | rfl | cases h
theorem q9B : PA X [] (dA X.D E δ (.ok [])) := q3b.weak λ σ H Q ⟨O, W, R, p⟩ => p [] H (Same.refl H) .nil
theorem q8H {rs : Option Rs} {q : Rs} (hs : q0k e = false) (ha : ∀ q, ra = some q -> PE X e (dE X.D E δ q)) (hb : ∀ q, rs = some q -> PA X es (dA X.D E δ q))
  (h : (match (generalizing := false) ra with | none => none | some (.ex c) => some (Rs.ex c) | some (.ok d c) => (match (generalizing := false) rs with | none => none | some (.ex c) => some (.ex c) | some (.ok l) => some (.ok ((d, c) :: l)))) = some q) : PA X (e :: es) (dA X.D E δ q) := by
 cases hra : ra with
 | none => rw [hra] at h; cases h
 | some z =>
  rw [hra] at h
  have A := ha z hra
  cases z with
  | ex c => cases h; exact (q0V A z2K (q0i hs)).weak λ σ H Q ⟨O, W, R, p⟩ => ⟨O, W, R, p⟩
  | ok d cl =>
   cases hrs : rs with
   | none => rw [hrs] at h; cases h
   | some y =>
    rw [hrs] at h
    have B := hb y hrs
    cases y with
    | ex c => cases h; exact (q0V A B (q0i hs)).weak λ σ H Q ⟨O, W, R, p⟩ => ⟨O, W, R, λ x H1 s1 g1 => ⟨O, W, R.mono s1, λ H' C m s => p H' C m (s1.trans s)⟩⟩
    | ok l =>
     cases h
     exact (q0V A B (q0i hs)).weak λ σ H Q ⟨O, W, R, p⟩ => ⟨O, W, R, λ x H1 s1 g1 => ⟨O, W, R.mono s1, λ vs H2 s2 g2 => p _ H2 (s1.trans s2) (.cons (g1.mono s2) (g2.since s1))⟩⟩
theorem z1x {rs : Option Rs} (ha : ∀ q, rs = some q -> PA X es (dA X.D E δ q)) (h : (Rs.thn rs λ l => if l.length <= mostLen then some (.ok (.lst (l.map (·.1))) (if stros l then .fresh else .weak)) else none) = some re) : PE X (.List es pos) (dE X.D E δ re) :=
 q2J (r := λ vs H Q => vs.length <= sizeLine /\ ∀ p, H p = none -> Q (.ref p) (upd H p (.lst vs))) (λ _ => z4T) ha h λ O W H0 H vs Q l σ k hd g p => by
  split at k
  ·rename_i m
   cases k
   refine ⟨by rw [g.length]; exact q1r m, λ q hq => p _ _ (q0h hq) ?_⟩
   by_cases z : stros l = true
   ·rw [if_pos z]; exact q1x hd hq (g.stros hd z)
   ·rw [if_neg z]; exact q4I hd hq (g.repL hd)
  ·cases k
theorem z0Z {rs : Option Rs} {x1 : Nat} (ha : ∀ q, rs = some q -> PA X es (dA X.D E δ q)) (h : (Rs.thn rs λ l => if l.length <= mostLen then some (.ok (.tup (l.map (·.1))) (if stros l then .strong else .weak)) else none) = some re) : PE X (.Tuple es x1 pos) (dE X.D E δ re) :=
 q2J (r := λ vs H Q => vs.length <= sizeLine /\ ∀ p, H p = none -> Q (.ref p) (upd H p (.tup vs))) (λ _ => z0w) ha h λ O W H0 H vs Q l σ k hd g p => by
  split at k
  ·rename_i m
   cases k
   refine ⟨by rw [g.length]; exact q1r m, λ q hq => p _ _ (q0h hq) ?_⟩
   by_cases z : stros l = true
   ·rw [if_pos z]; exact q3L hd hq (g.stros hd z)
   ·rw [if_neg z]; exact q6n hd hq (g.repL hd)
  ·cases k
end
end L2
end
section
namespace L2
open PySem PySem.Spec PyProof.Rows
noncomputable def GotR (D : Dm) (O : List Addr) (H0 H : Hp) (d : DV) (fr : Bool) (v : V) : Prop := match fr with
 | false => Rep D (L2.wo O H) d v
 | true => ∃ p xs ds, v = .ref p /\ d = .lst ds /\ H0 p = none /\ H p = some (.lst xs) /\ RepL D (L2.wo (p :: O) H) ds xs
noncomputable def GotF (H H' : Hp) (xs : List DV) (v : V) : Prop := ∃ (p : Addr) (L : List (Addr × List Int)), v = .ref p /\ xs = L.map (λ q => .lst (q.2.map DV.int)) /\ H p = none /\ H' p = some (.lst (L.map λ q => .ref q.1)) /\ (∀ q ∈ L, H q.1 = none /\ H' q.1 = some (.lst (q.2.map V.int))) /\ (p :: L.map (·.1)).Nodup
theorem GotF.since {H0 H1 H : Hp} {xs : List DV} {v : V} (g : GotF H1 H xs v) (f : ∀ a, H1 a = none -> H0 a = none) : GotF H0 H xs v := by
 obtain ⟨p, L, e1, e2, e3, e4, e5, e6⟩ := g
 exact ⟨p, L, e1, e2, f _ e3, e4, λ q hq => ⟨f _ (e5 q hq).1, (e5 q hq).2⟩, e6⟩
theorem GotF.items {D : Dm} {H0 H : Hp} {xs : List DV} {v : V} {Z : List Addr} (g : GotF H0 H xs v) (hz : ∀ a ∈ Z, H0 a ≠ none) : ∃ p vs, v = .ref p /\ H0 p = none /\ H p = some (.lst vs) /\ RepL D (L2.wo (p :: Z) H) xs vs := by
 obtain ⟨p, L, e1, e2, e3, e4, e5, e6⟩ := g
 refine ⟨p, _, e1, e3, e4, ?_⟩
 rw [e2]
 refine q5x λ q hq => ?_
 rw [q0n λ z => ?_]
 ·exact (e5 q hq).2
 ·rcases List.mem_cons.mp z with z | z
  ·exact (List.nodup_cons.mp e6).1 (List.mem_map.mpr ⟨q, hq, z⟩)
  ·exact hz _ z (e5 q hq).1
theorem GotF.fresh {D : Dm} {O W : List Addr} {H0 H1 H : Hp} {xs : List DV} {v : V} (g : GotF H0 H xs v) (hd : Hid O W H0 H1) : Got D O W H0 H (.lst xs) .fresh v := by
 obtain ⟨p, vs, e1, e2, e3, e4⟩ := g.items (D := D) (Z := O ++ W) hd.ot
 exact ⟨p, vs, xs, e1, rfl, e2, e3, e4⟩
noncomputable def GotT (D : Dm) (O : List Addr) (H0 H : Hp) (d : DV) (v : V) : Prop := (∃ t ts p xs ds es, v = .ref t /\ d = .tup (.lst ds :: es) /\ SqT D.K (L2.wo O H) t (.ref p :: ts) /\ H0 p = none /\ H p = some (.lst xs) /\ RepL D (L2.wo (p :: O) H) ds xs /\ RepL D (L2.wo (p :: O) H) es ts) \/ ∃ xs, d = .lst xs /\ GotF H0 H xs v
noncomputable def spF (D : Dm) (n : Nat) (f : List DV -> Option Ou) : Sp := λ vs H Q E => ∃ O ds o, (∀ a ∈ O, H a ≠ none) /\ ds.length = n /\ RepL D (L2.wo O H) ds vs /\ f ds = some o /\
 (match o with | .v d fr => ∀ v H', Same H H' -> GotR D O H H' d fr v -> Q v H' | .t d => ∀ v H', Same H H' -> GotT D O H H' d v -> Q v H' | .x c => ∀ H' C, D.mg c = some C -> Same H H' -> E C none H')
noncomputable def spH (D : Dm) (f : DV -> List DV -> Option (DV × List DV)) : Sp := λ vs H Q _ => ∃ O p v d ds xs r, vs = [v, .ref p] /\ (∀ a ∈ O, H a ≠ none) /\ p ∉ O /\ H p = some (.lst xs) /\ Rep D (L2.wo (O ++ [p]) H) d v /\ RepL D (L2.wo (O ++ [p]) H) ds xs /\ f d ds = some r /\
 ∀ v' H' xs', Same (L2.wo [p] H) H' -> H' p = some (.lst xs') -> Rep D (L2.wo (O ++ [p]) H') r.1 v' -> RepL D (L2.wo (O ++ [p]) H') r.2 xs' -> Q v' H'
section
variable {X : Cx} {E : St -> XK} {δ : List Sv} {e : Expr} {es : List Expr} {pos p : Pos} {re : Re} {rs : Option Rs} {k : Nat} {fa : Addr} {fd : FuncData} {ps : List Str} {x : Str}
theorem q9P {F : Nat -> List DV -> Option Ou} {f : Nat} (fo : FnOk X.prog X.w X.K X.mg X.base (CXx X.prog X.w X.base) k fa fd ps (spF X.D ps.length (F f))) (hn : ∀ ds o, F f ds = some o -> ds.length = ps.length) (hr : Room k X.A) (hg : Gl X x) (hm : X.mg x = some (.ref fa)) (hk : PySem.W.keepIn X.K (.ref fa) = true)
  (hb : q2w X.K fd ps []) (hx : q3B (CXx X.prog X.w X.base) X E) (ha : ∀ q, rs = some q -> PA X (e :: es) (dA X.D E δ q)) (hdb : (x == ("__debug__" : Str)) = false) (hs : q0k e = false) (hss : es.any q0k = false)
  (h : (Rs.thn rs λ l => q3Q F f l) = some re) : PE X (.Call (.Name x p) (e :: es) [] pos) (dE X.D E δ re) := by
 have plain : ∀ (es : List Expr), es.any q0k = false -> (backTo pos (starEach es X.env)).any (·.1) = false := by
  intro es
  induction es with
  | nil => intro _; rfl
  | cons y ys ih =>
   intro q
   rw [List.any_cons, Bool.or_eq_false_iff] at q
   rw [q0i q.1]
   show (false || (backTo pos (starEach ys X.env)).any (·.1)) = false
   rw [ih q.2]; rfl
 have C := λ t (hA : PA X (e :: es) t) => z0d (p := p) (pos := pos) fo hr hg hm hk hb .nil hx hA hdb (q0i hs) (plain es hss)
 cases hrs : rs with
 | none => rw [hrs] at h; cases h
 | some q =>
  rw [hrs] at h
  have A := ha q hrs
  cases q with
  | ex c => cases h; exact (C _ A).weak λ σ H Q ⟨O, W, R, p⟩ => ⟨O, W, R, p⟩
  | ok l =>
   have h' : q3Q F f l = some re := h
   unfold q3Q at h'
   split at h'
   ·cases h'
   ·rename_i c e1
    cases h'
    refine (C _ A).weak λ σ H Q ⟨O, W, R, p⟩ => ⟨O, W, R, λ vs H1 s1 g1 => ?_⟩
    have hd := R.hid.mono s1
    show spF X.D ps.length (F f) (vs ++ []) H1 Q (E σ)
    rw [List.append_nil]
    exact ⟨O, _, _, λ a ha q => hd.ot a (List.mem_append_left _ ha) (s1.free q), hn _ _ e1, g1.repL hd, e1, λ H' C m s => p H' C m (s1.trans s)⟩
   ·rename_i d e1
    cases h'
    refine (C _ A).weak λ σ H Q ⟨O, W, R, p⟩ => ⟨O, W, R, λ vs H1 s1 g1 => ?_⟩
    have hd := R.hid.mono s1
    show spF X.D ps.length (F f) (vs ++ []) H1 Q (E σ)
    rw [List.append_nil]
    by_cases z : (l.all λ p => p.2 == .strong || p.2 == .fresh) = true
    ·rw [if_pos z] at p
     refine ⟨O ++ W, _, _, λ a ha q => hd.ot a ha (s1.free q), hn _ _ e1, g1.strong hd z, e1, λ v H' s g => p v H' (s1.trans s) ?_⟩
     rcases g with ⟨t, ts, q, xs, ds, es, f1, f2, f0, f3, f4, f5, f6⟩ | ⟨xs, f1, f2⟩
     ·subst f2
      exact ⟨t, ts, q, xs, ds, es, f1, rfl, f0, s1.free f3, f4, f5, f6⟩
     ·subst f1
      exact (f2.since λ a ha => s1.free ha).fresh hd
    ·rw [if_neg z] at p
     refine ⟨O, _, _, λ a ha q => hd.ot a (List.mem_append_left _ ha) (s1.free q), hn _ _ e1, g1.repL hd, e1, λ v H' s g => p v H' (s1.trans s) ?_⟩
     rcases g with ⟨t, ts, q, xs, ds, es, f1, f2, f0, f3, f4, f5, f6⟩ | ⟨xs, f1, f2⟩
     ·have hq : q ∉ O := λ z => hd.ot q (List.mem_append_left _ z) (s1.free f3)
      have up : Same (L2.wo (q :: O) H') (L2.wo O H') := q0x λ b hb => List.mem_cons_of_mem _ hb
      rw [f2]
      exact q0z.mpr ⟨t, _, f1, f0, q0e.mpr ⟨_, _, rfl, q0u.mpr ⟨q, xs, rfl, by rw [q0n hq]; exact f4, f5.mono up⟩, f6.mono up⟩⟩
     ·subst f1
      have hO : ∀ a ∈ O, H1 a ≠ none := λ a ha q => hd.ot a (List.mem_append_left _ ha) (s1.free q)
      obtain ⟨q, vs, g1', g2', g3', g4'⟩ := f2.items (D := X.D) hO
      have hq : q ∉ O := λ z => hO q z g2'
      exact q0u.mpr ⟨q, vs, g1', by rw [q0n hq]; exact g3', g4'.mono (q0x λ b hb => List.mem_cons_of_mem _ hb)⟩
   ·rename_i d fr e1
    cases h'
    refine (C _ A).weak λ σ H Q ⟨O, W, R, p⟩ => ⟨O, W, R, λ vs H1 s1 g1 => ?_⟩
    have hd := R.hid.mono s1
    show spF X.D ps.length (F f) (vs ++ []) H1 Q (E σ)
    rw [List.append_nil]
    by_cases z : (l.all λ p => p.2 == .strong || p.2 == .fresh) = true
    ·rw [if_pos z] at p
     refine ⟨O ++ W, _, _, λ a ha q => hd.ot a ha (s1.free q), hn _ _ e1, g1.strong hd z, e1, λ v H' s g => p v H' (s1.trans s) ?_⟩
     cases fr with
     | false => exact g
     | true =>
      obtain ⟨q, xs, ds, e1, e2, e3, e4, e5⟩ := g
      exact ⟨q, xs, ds, e1, e2, s1.free e3, e4, e5⟩
    ·rw [if_neg z] at p
     refine ⟨O, _, _, λ a ha q => hd.ot a (List.mem_append_left _ ha) (s1.free q), hn _ _ e1, g1.repL hd, e1, λ v H' s g => p v H' (s1.trans s) ?_⟩
     cases fr with
     | false => exact g
     | true =>
      obtain ⟨q, xs, ds, e1, e2, e3, e4, e5⟩ := g
      have hq : q ∉ O := λ z => hd.ot q (List.mem_append_left _ z) (s1.free e3)
      rw [e2]
      exact q0u.mpr ⟨q, xs, e1, by rw [q0n hq]; exact e4, e5.mono (q0x λ b hb => List.mem_cons_of_mem _ hb)⟩
end
section
variable {X : Cx} {E : St -> XK} {δ : List Sv} {e : Expr} {es : List Expr} {pos p : Pos} {re : Re} {rs : Option Rs}
theorem q1z {env : Env} {pos : Pos} : ∀ (es : List Expr), es.any q0k = false -> (backTo pos (starEach es env)).any (·.1) = false
 | [], _ => rfl
 | y :: ys, q => by
  rw [List.any_cons, Bool.or_eq_false_iff] at q
  rw [q0i q.1]
  show (false || (backTo pos (starEach ys env)).any (·.1)) = false
  rw [q1z ys q.2]; rfl
noncomputable def biR (X : Cx) (k : List (DV × Cl) -> Option Re) : List V -> Hp -> VK -> Prop := λ vs H Q => ∃ l re O W H0, k l = some re /\ Hid O W H0 H /\ GotL X.D O W H0 H l vs /\ ∃ d c, re = .ok d c /\ ∀ v H', Same H H' -> Got X.D O W H0 H' d c v -> Q v H'
theorem z0D {k : List (DV × Cl) -> Option Re} {x : Str} {id : String} (hc : q2l X (.builtin id) (biR X k)) (hk : ∀ l re, k l = some re -> ∃ d c, re = .ok d c) (hg : Gl X x) (hm : X.mg x = none) (hv : bootBuiltins x = some (.builtin id)) (hn : x ≠ "__name__") (hdb : (x == ("__debug__" : Str)) = false)
  (ha : ∀ q, rs = some q -> PA X (e :: es) (dA X.D E δ q)) (hs : q0k e = false) (hss : es.any q0k = false) (h : Rs.thn rs k = some re) : PE X (.Call (.Name x p) (e :: es) [] pos) (dE X.D E δ re) :=
 q2J (λ _ hA => q4s hc hg hm hv hA hn hdb (q0i hs) (q1z es hss)) ha h λ O W H0 H vs Q l σ hl hd g p => by
  obtain ⟨d, c, rfl⟩ := hk l re hl
  exact ⟨l, _, O, W, H0, hl, hd, g, d, c, rfl, p⟩
theorem z2m {k : List (DV × Cl) -> Option Re} {x : Str} {T : String} (hc : q2l X (.type T) (biR X k)) (hk : ∀ l re, k l = some re -> ∃ d c, re = .ok d c) (hg : Gl X x) (hm : X.mg x = none) (hv : bootBuiltins x = some (.type T)) (hn : x ≠ "__name__") (hdb : (x == ("__debug__" : Str)) = false)
  (ha : ∀ q, rs = some q -> PA X (e :: es) (dA X.D E δ q)) (hs : q0k e = false) (hss : es.any q0k = false) (h : Rs.thn rs k = some re) : PE X (.Call (.Name x p) (e :: es) [] pos) (dE X.D E δ re) :=
 q2J (λ _ hA => q8m hc hg hm hv hA hn hdb (q0i hs) (q1z es hss)) ha h λ O W H0 H vs Q l σ hl hd g p => by
  obtain ⟨d, c, rfl⟩ := hk l re hl
  exact ⟨l, _, O, W, H0, hl, hd, g, d, c, rfl, p⟩
theorem z2h : ∀ l re, lenD l = some re -> ∃ d c, re = .ok d c := λ l re h => by unfold lenD at h; split at h <;> cases h <;> exact ⟨_, _, rfl⟩
theorem z1Q : ∀ l re, minD l = some re -> ∃ d c, re = .ok d c := λ l re h => by
 unfold minD at h
 split at h
 ·cases h; exact ⟨_, _, rfl⟩
 ·split at h
  ·cases h; exact ⟨_, _, rfl⟩
  ·split at h
   ·cases h; exact ⟨_, _, rfl⟩
   ·cases h
 ·split at h
  ·cases h; exact ⟨_, _, rfl⟩
  ·cases h
 ·cases h
theorem q4A {D : Dm} {H : Hp} : ∀ {ds : List DV} {ns : List Int} {xs : List V}, ints? ds = some ns -> RepL D H ds xs -> xs = ns.map V.int
 | [], ns, xs, h, r => by
  cases h
  exact q0q.mp r
 | .int i :: ds, ns, xs, h, r => by
  have h' : (ints? ds).map (i :: ·) = some ns := h
  obtain ⟨ms, e1, e2⟩ := Option.map_eq_some_iff.mp h'
  obtain ⟨v, vs, e3, e4, e5⟩ := q0e.mp r
  have q := q4A e1 e5
  rw [← e2, e3, List.map_cons, q0A.mp e4, q]
 | .non :: ds, ns, xs, h, _ => by cases h
 | .bl _ :: ds, ns, xs, h, _ => by cases h
 | .str _ :: ds, ns, xs, h, _ => by cases h
 | .tup _ :: ds, ns, xs, h, _ => by cases h
 | .lst _ :: ds, ns, xs, h, _ => by cases h
 | .dct _ _ :: ds, ns, xs, h, _ => by cases h
 | .exc _ :: ds, ns, xs, h, _ => by cases h
 | .fn _ :: ds, ns, xs, h, _ => by cases h
 | .scr _ :: ds, ns, xs, h, _ => by cases h
theorem q6h : ∀ (r : List Int) (m : Int), (minI m r = m \/ minI m r ∈ r) /\ minI m r <= m /\ ∀ x ∈ r, minI m r <= x
 | [], m => ⟨.inl rfl, Int.le_refl _, λ x h => by cases h⟩
 | y :: r, m => by
  obtain ⟨h0, h1, h2⟩ := q6h r (if y < m then y else m)
  unfold minI
  by_cases q : y < m
  ·rw [if_pos q] at h0 h1 h2 ⊢
   refine ⟨.inr ?_, by omega, λ x hx => ?_⟩
   ·rcases h0 with z | z
    ·rw [z]; exact List.mem_cons_self ..
    ·exact List.mem_cons_of_mem _ z
   ·rcases List.mem_cons.mp hx with z | z
    ·rw [z]; exact h1
    ·exact h2 x z
  ·rw [if_neg q] at h0 h1 h2 ⊢
   refine ⟨h0.imp id (List.mem_cons_of_mem _), h1, λ x hx => ?_⟩
   rcases List.mem_cons.mp hx with z | z
   ·rw [z]; omega
   ·exact h2 x z
theorem q5Z {n M : Int} {r : List Int} (h1 : M ∈ n :: r) (h2 : ∀ x ∈ n :: r, M <= x) : M = minI n r := by
 obtain ⟨a, b, c⟩ := q6h r n
 have d : minI n r ∈ n :: r := a.elim (λ z => by rw [z]; exact List.mem_cons_self ..) (List.mem_cons_of_mem _)
 have e := h2 _ d
 have f : minI n r <= M := by
  rcases List.mem_cons.mp h1 with z | z
  ·rw [z]; exact b
  ·exact c M z
 omega
theorem q9N : ∀ l re, q6N l = some re -> ∃ d c, re = .ok d c := λ l re h => by unfold q6N at h; split at h <;> cases h <;> exact ⟨_, _, rfl⟩
theorem z4G : q2l X (.builtin "len") (biR X lenD) := by
 intro pins s σ H xs us Q I r h
 obtain ⟨l, re, O, W, H0, hb, hd, g, d, c, rfl, p⟩ := h
 unfold lenD at hb
 split at hb
 ·cases hb
  obtain ⟨v, rfl, gv⟩ := g.one
  obtain ⟨a, ys, e1, e2, e3⟩ := gv.lst hd
  exact q1T pins s σ H _ us Q I r ⟨a, ys, by rw [e1], .inl (SqL.of e2), by rw [e3.length]; exact p _ H (Same.refl H) q0y⟩
 ·cases hb
  obtain ⟨v, rfl, gv⟩ := g.one
  obtain ⟨a, ys, e1, e2, e3⟩ := gv.tup hd
  exact q1T pins s σ H _ us Q I r ⟨a, ys, by rw [e1], .inr e2, by rw [e3.length]; exact p _ H (Same.refl H) q0y⟩
 ·cases hb
  obtain ⟨v, rfl, gv⟩ := g.one
  obtain ⟨a, e1, e2⟩ := q1G.mp (gv.all hd)
  exact q1T pins s σ H _ us Q I r ⟨a, _, by rw [e1], .inl e2.sq, by rw [List.length_map]; exact p _ H (Same.refl H) q0y⟩
 ·cases hb
  obtain ⟨v, rfl, gv⟩ := g.one
  obtain ⟨e1, e2⟩ := gv.str hd
  exact q4P pins s σ H _ us Q I r ⟨_, by rw [e1], e2, p _ H (Same.refl H) q0y⟩
 ·cases hb
theorem q5l : ∀ {ds : List DV} {ps : List (Int × Int × Int)} {i : Nat}, trips? ds = some ps -> i < ps.length -> ds[i]? = some (trD (ps.getD i (0, 0, 0)))
 | [], ps, i, h, hi => by cases h; simp at hi
 | d0 :: ds, ps, i, h, hi => by
  unfold trips? at h
  split at h
  ·rename_i q; cases q
  ·rename_i a b c r' q
   cases q
   obtain ⟨ms, e1, e2⟩ := Option.map_eq_some_iff.mp h
   subst e2
   cases i with
   | zero => rfl
   | succ i => exact q5l (ds := ds) e1 (by simpa using hi)
  ·cases h
theorem q5n {D : Dm} {H : Hp} : ∀ {ds : List DV} {ps : List (Int × Int × Int)} {xs : List V}, trips? ds = some ps -> RepL D H ds xs -> TrsV D.K H xs ps
 | [], ps, xs, h, r => by
  cases h
  rw [q0q.mp r]
  exact trivial
 | d0 :: ds, ps, xs, h, r => by
  unfold trips? at h
  split at h
  ·rename_i q; cases q
  ·rename_i a b c r' q
   cases q
   obtain ⟨ms, e1, e2⟩ := Option.map_eq_some_iff.mp h
   obtain ⟨v, vs, e3, e4, e5⟩ := q0e.mp r
   have q := q5n e1 e5
   obtain ⟨c', ys, f1, f2, f3⟩ := q0z.mp e4
   obtain ⟨v1, l1, g1, g2, g3⟩ := q0e.mp f3
   obtain ⟨v2, l2, g4, g5, g6⟩ := q0e.mp g3
   obtain ⟨v3, l3, g7, g8, g9⟩ := q0e.mp g6
   rw [← e2, e3]
   refine ⟨⟨c', f1, ?_⟩, q⟩
   rw [g1, g4, g7, q0q.mp g9, q0A.mp g2, q0A.mp g5, q0A.mp g8] at f2
   exact f2
  ·cases h
theorem TrsV.le {K : PySem.W.Frag} {H H' : Hp} (e : Same H H') : ∀ {vs : List V} {ps : List (Int × Int × Int)}, TrsV K H vs ps -> TrsV K H' vs ps
 | [], [], _ => trivial
 | _ :: _, _ :: _, x => by
  obtain ⟨⟨a, h1, h2⟩, h3⟩ := x
  exact ⟨⟨a, h1, e.tseq h2⟩, h3.le e⟩
 | [], _ :: _, x => x.elim
 | _ :: _, [], x => x.elim
theorem z3H (hc : X.calm = true) (hu : X.A.units + 1 < cLine) : q2l X (.builtin "min") (biR X minD) := by
 intro pins s σ H xs us Q I r h
 obtain ⟨l, re, O, W, H0, hb, hd, g, d, c, rfl, p⟩ := h
 unfold minD at hb
 split at hb
 ·cases hb
  obtain ⟨v, v', rfl, gv, gv'⟩ := g.two
  exact q8X hc pins s σ H _ us Q I r ⟨_, _, by rw [gv.int hd, gv'.int hd], p _ H (Same.refl H) q0y⟩
 ·split at hb
  ·rename_i n r' hq
   cases hb
   obtain ⟨v, rfl, gv⟩ := g.one
   obtain ⟨a, ys, e1, e2, e3⟩ := gv.lst hd
   have e4 := q4A hq e3
   subst e4
   exact q8d hc pins s σ H _ us Q I r ⟨a, n :: r', by rw [e1], SqL.of e2, by simp, λ M m1 m2 => by rw [q5Z m1 m2]; exact p _ H (Same.refl H) q0y⟩
  ·split at hb
   ·rename_i n r' hq
    cases hb
    obtain ⟨v, rfl, gv⟩ := g.one
    obtain ⟨a, ys, e1, e2, e3⟩ := gv.lstC hd
    refine q7Y hc hu pins s σ H _ us Q I r ⟨a, ys, n, r', by rw [e1], SqL.of e2, (q5n hq e3).le q0F, λ i x f1 f2 f3 => p _ H (Same.refl H) ?_⟩
    obtain ⟨z, g1, g2⟩ := e3.get (q5l hq f3)
    rw [f1] at g1
    cases g1
    rw [f2] at g2
    exact Got.item g2
   ·cases hb
 ·split at hb
  ·rename_i n r' hq
   cases hb
   obtain ⟨v, rfl, gv⟩ := g.one
   obtain ⟨a, ys, e1, e2, e3⟩ := gv.tup hd
   have e4 := q4A hq e3
   subst e4
   exact q7x hc pins s σ H _ us Q I r ⟨a, n :: r', by rw [e1], e2, by simp, λ M m1 m2 => by rw [q5Z m1 m2]; exact p _ H (Same.refl H) q0y⟩
  ·cases hb
 ·cases hb
theorem z2f : q2l X (.type "list") (biR X q6N) := by
 intro pins s σ H xs us Q I r h
 obtain ⟨l, re, O, W, H0, hb, hd, g, d, c, rfl, p⟩ := h
 unfold q6N at hb
 split at hb
 ·cases hb
  obtain ⟨v, rfl, gv⟩ := g.one
  obtain ⟨a, e1, e2⟩ := q1G.mp (gv.all hd)
  exact q1W pins s σ H _ us Q I r ⟨a, _, by rw [e1], .inl e2.sq, λ q hq => p _ _ (q0h hq) (q1x hd hq (q1n _))⟩
 ·cases hb
  obtain ⟨v, rfl, gv⟩ := g.one
  obtain ⟨a, ys, e1, e2, e3⟩ := gv.lstC hd
  exact q1W pins s σ H _ us Q I r ⟨a, ys, by rw [e1], .inl (SqL.of e2), λ q hq => p _ _ (q0h hq) (q3k hd hq e3)⟩
 ·cases hb
  obtain ⟨v, rfl, gv⟩ := g.one
  obtain ⟨a, ys, e1, e2, e3⟩ := gv.tupC hd
  exact q1W pins s σ H _ us Q I r ⟨a, ys, by rw [e1], .inr e2, λ q hq => p _ _ (q0h hq) (q3k hd hq e3)⟩
 ·cases hb
end
noncomputable def tyS : DV -> Option String
 | .non => some "NoneType" | .bl _ => some "bool" | .int _ => some "int" | .str _ => some "str" | .tup _ => some "tuple" | .lst _ => some "list" | .dct _ _ => some "dict"
 | _ => none
noncomputable def z3R (T t : String) : Option Bool := if (Value.type T == Value.type t) = true then some true else if PySem.W.kitMeta t = true then (fastBuiltinMro T).map (·.contains (.type t)) else none
theorem q9b : (["NoneType", "bool", "int", "str", "tuple", "list", "dict"] : List String).all (λ T => (["int", "bool", "str", "list", "tuple", "dict"] : List String).all λ t => z3R T t == some (T == t || (T == "bool" && t == "int"))) = true := by decide +kernel
theorem q2H {K : PySem.W.Frag} (T t : String) (h1 : T ∈ ["NoneType", "bool", "int", "str", "tuple", "list", "dict"]) (h2 : t ∈ ["int", "bool", "str", "list", "tuple", "dict"]) :
  PySem.W.kitOne K (.type T) (.type t) = some (T == t || (T == "bool" && t == "int")) := by
 have q := List.all_eq_true.mp (List.all_eq_true.mp q9b T h1) t h2
 exact (show z3R T t = _ from by simpa using q)
section
variable {X : Cx} {E : St -> XK} {δ : List Sv} {e e' : Expr} {pos p p' : Pos} {re : Re} {ra : Option Re}
theorem z4g {pins : List (Addr × Obj)} {σ : St} {H : Hp} {s : Shared} {Q : Value -> Shared -> Prop} {EE : Value -> Shared -> Prop} {d : DV} {v : V} {u : Value} {T t : String} (I : Inv X pins σ H s) (r : Rep X.D H d v) (rv : RelV v u) (hT : tyS d = some T) (ht : t ∈ ["int", "bool", "str", "list", "tuple", "dict"])
  (h : ∀ tk, Q (.bool (T == t || (T == "bool" && t == "int"))) { s with toks := tk }) : wpAny (model X.prog X.w) X.A (call (.builtin "isinstance") [u, .type t]) Q EE s := by
 cases d with
 | non => cases hT; rw [q3O.mp r] at rv; cases rv; exact PySem.W.kia_one PySem.W.kitx_none I.kIn True.intro (q2H _ _ (by simp) ht) (λ z => nomatch z) h
 | bl b => cases hT; rw [q3p.mp r] at rv; cases rv; exact PySem.W.kia_one PySem.W.kitx_bool I.kIn True.intro (q2H _ _ (by simp) ht) (λ z => nomatch z) h
 | int b => cases hT; rw [q0A.mp r] at rv; obtain ⟨tk, rfl⟩ := rv; exact PySem.W.kia_one PySem.W.kitx_int I.kIn True.intro (q2H _ _ (by simp) ht) (λ z => nomatch z) h
 | str b => cases hT; rw [(q2a.mp r).1] at rv; obtain ⟨tk, rfl⟩ := rv; exact PySem.W.kia_one PySem.W.kitx_str I.kIn True.intro (q2H _ _ (by simp) ht) (λ z => nomatch z) h
 | tup ds =>
  cases hT
  obtain ⟨a, xs, e1, e2, e3⟩ := q0z.mp r
  rw [e1] at rv; cases rv
  obtain ⟨its, _, ⟨o, h1, h2, _⟩, _⟩ := I.tuple e2
  exact PySem.W.kia_one PySem.W.kitx_tuple I.kIn ⟨o, h1, h2⟩ (q2H _ _ (by simp) ht) (λ z => nomatch z) h
 | lst ds =>
  cases hT
  obtain ⟨a, xs, e1, e2, e3⟩ := q0u.mp r
  rw [e1] at rv; cases rv
  obtain ⟨_, its, n, _, _, h1⟩ := I.lstM e2
  exact PySem.W.kia_one PySem.W.kitx_list I.kIn ⟨_, h1, rfl⟩ (q2H _ _ (by simp) ht) (λ z => nomatch z) h
 | dct ks vs =>
  cases hT
  obtain ⟨a, ob, kvs, e1, e2, _⟩ := q2r.mp r
  rw [e1] at rv; cases rv
  obtain ⟨_, _, _, _, _, ⟨o, _, _, h1, h2, _⟩⟩ := (show q0Y X.prog X.w H s.heap a (.frz ob (.dK kvs)) from I.hok a _ e2)
  exact PySem.W.kia_one PySem.W.kitx_dict I.kIn ⟨o, h1, h2.1⟩ (q2H _ _ (by simp) ht) (λ z => nomatch z) h
 | exc _ => cases hT
 | fn _ => cases hT
 | scr _ => cases hT
noncomputable def rIsi (X : Cx) : List V -> Hp -> VK -> Prop := λ xs H Q => ∃ d T t x, xs = [x, .ty t] /\ Rep X.D H d x /\ tyS d = some T /\ t ∈ ["int", "bool", "str", "list", "tuple", "dict"] /\ Q (.bl (T == t || (T == "bool" && t == "int"))) H
theorem q9p : q2l X (.builtin "isinstance") (rIsi X) := by
 intro pins s σ H xs us Q I r h
 obtain ⟨d, T, t, x, rfl, r1, hT, ht, q⟩ := h
 obtain ⟨u, w', rfl, ru, rw'⟩ := q7i r
 cases rw'
 exact z4g I r1 ru hT ht λ tk => ⟨.bl _, H, I.tok tk, rfl, q⟩
noncomputable def q3c : Str -> Option String := λ x => (["int", "bool", "str", "list", "tuple", "dict"] : List String).find? λ t => Str.ofString t == x
theorem q4B {x : Str} {t : String} (h : q3c x = some t) : bootBuiltins x = some (.type t) /\ t ∈ ["int", "bool", "str", "list", "tuple", "dict"] /\ Str.ofString t = x := by
 unfold q3c at h
 have h1 := List.find?_some h
 have h2 := List.mem_of_find?_eq_some h
 have h3 : Str.ofString t = x := by simpa using h1
 refine ⟨?_, h2, h3⟩
 subst h3
 simp only [List.mem_cons, List.not_mem_nil, or_false] at h2
 rcases h2 with rfl | rfl | rfl | rfl | rfl | rfl
 ·exact boot_int
 ·exact boot_bool
 ·exact boot_str
 ·exact boot_list
 ·exact boot_tuple
 ·exact boot_dict
noncomputable def q9d : String -> List Str
 | "NoneType" => ["NoneType"] | "bool" => ["bool", "int"] | "int" => ["int"] | "str" => ["str"] | "tuple" => ["tuple"] | "list" => ["list"] | "dict" => ["dict"]
 | _ => []
theorem q5D : (["NoneType", "bool", "int", "str", "tuple", "list", "dict"] : List String).all (λ T => (["int", "bool", "str", "list", "tuple", "dict"] : List String).all λ t => (q9d T).contains (Str.ofString t) == (T == t || (T == "bool" && t == "int"))) = true := by decide +kernel
theorem q7y {d : DV} {x : Str} {t T : String} (h : q3c x = some t) (hT : tyS d = some T) : (tyOf d).contains x = (T == t || (T == "bool" && t == "int")) := by
 obtain ⟨_, h2, h3⟩ := q4B h
 subst h3
 have key : ∀ T ∈ (["NoneType", "bool", "int", "str", "tuple", "list", "dict"] : List String), (q9d T).contains (Str.ofString t) = (T == t || (T == "bool" && t == "int")) := λ T hT => by
  have q := List.all_eq_true.mp (List.all_eq_true.mp q5D T hT) t h2
  simpa using q
 cases d <;> cases hT
 ·exact key "NoneType" (by simp)
 ·exact key "bool" (by simp)
 ·exact key "int" (by simp)
 ·exact key "str" (by simp)
 ·exact key "tuple" (by simp)
 ·exact key "list" (by simp)
 ·exact key "dict" (by simp)
theorem z0V {G : Gs} {x : Str} {t : String} (ht : q3c x = some t) (hg : Gl X "isinstance") (hm : X.mg "isinstance" = none) (hgx : Gl X x) (hmx : X.mg x = none) (hnx : x ≠ "__name__") (hdx : (x == ("__debug__" : Str)) = false)
  (ha : ∀ q, ra = some q -> PE X e (dE X.D E δ q)) (hs : q0k e = false) (h : (Re.thn ra λ y _ => (isiD G y [x]).map λ k => .ok (.bl k) .strong) = some re) : PE X (.Call (.Name "isinstance" p) [e, .Name x p'] [] pos) (dE X.D E δ re) := by
 obtain ⟨b1, b2, b3⟩ := q4B ht
 have T : PE X (.Name x p') (tC (.ty t)) := q5I hgx hmx b1 rfl hnx hdx
 have C := λ ta (hA : PE X e ta) => q4s (p := p) (pos := pos) q9p hg hm boot_isinstance (q0V hA (q0V T q3b) (q0i hs)) (by decide) (by decide) (q0i hs)
 cases hra : ra with
 | none => rw [hra] at h; cases h
 | some q =>
  rw [hra] at h
  have A := ha q hra
  cases q with
  | ex c => cases h; exact (C _ A).weak λ σ H Q ⟨O, W, R, p⟩ => ⟨O, W, R, p⟩
  | ok d cl =>
   obtain ⟨k, e1, e2⟩ := Option.map_eq_some_iff.mp (show ((isiD G d [x]).map λ k => Re.ok (.bl k) .strong) = some re from h)
   cases e2
   have key : ∃ T, tyS d = some T /\ k = (tyOf d).contains x := by
    unfold isiD at e1
    have px : q0Z.contains x = true := by
     rw [← b3]
     simp only [List.mem_cons, List.not_mem_nil, or_false] at b2
     rcases b2 with rfl | rfl | rfl | rfl | rfl | rfl <;> decide +kernel
    cases d <;> first
     | (simp only [px, if_true] at e1; cases e1; exact ⟨_, rfl, rfl⟩)
     | cases e1
   obtain ⟨T, hT, hk⟩ := key
   exact (C _ A).weak λ σ H Q ⟨O, W, R, p⟩ => ⟨O, W, R, λ v H1 s1 g1 => ⟨d, T, t, v, rfl, g1.all (R.hid.mono s1), hT, b2, by rw [← q7y ht hT, ← hk]; exact p _ H1 s1 q4e⟩⟩
end
end L2
end
section
namespace L2
open PySem PySem.Spec PyProof.Rows
noncomputable def tyIs (T t : String) : Bool := T == t || (T == "bool" && t == "int")
theorem z2z {K : PySem.W.Frag} {T t1 t2 : String} (h : T ∈ ["NoneType", "bool", "int", "str", "tuple", "list", "dict"]) (h1 : t1 ∈ ["int", "bool", "str", "list", "tuple", "dict"]) (h2 : t2 ∈ ["int", "bool", "str", "list", "tuple", "dict"]) :
  PySem.W.kitAny K (.type T) [.type t1, .type t2] = some (tyIs T t1 || tyIs T t2) := by
 have e1 : PySem.W.kitOne K (.type T) (.type t1) = some (tyIs T t1) := q2H T t1 h h1
 have e2 : PySem.W.kitOne K (.type T) (.type t2) = some (tyIs T t2) := q2H T t2 h h2
 unfold PySem.W.kitAny
 rw [e1]
 cases tyIs T t1 with
 | true => rfl
 | false =>
  show PySem.W.kitAny K (.type T) [.type t2] = _
  unfold PySem.W.kitAny
  rw [e2]
  cases tyIs T t2 <;> rfl
section
variable {X : Cx} {E : St -> XK} {δ : List Sv} {e : Expr} {pos p : Pos} {ra : Option Re} {re : Re}
theorem z3m {pins : List (Addr × Obj)} {σ : St} {H : Hp} {s : Shared} {d : DV} {v : V} {u : Value} {T : String} (I : Inv X pins σ H s) (r : Rep X.D H d v) (rv : RelV v u) (hT : tyS d = some T) :
  ∃ HH : Heap -> Prop, PySem.W.KitX X.K u (.type T) HH /\ HH s.heap /\ u ≠ .builtin "__main__.__loader__#opaque" /\ T ∈ ["NoneType", "bool", "int", "str", "tuple", "list", "dict"] := by
 cases d with
 | non => cases hT; rw [q3O.mp r] at rv; cases rv; exact ⟨_, PySem.W.kitx_none, True.intro, (λ z => nomatch z), by simp⟩
 | bl b => cases hT; rw [q3p.mp r] at rv; cases rv; exact ⟨_, PySem.W.kitx_bool, True.intro, (λ z => nomatch z), by simp⟩
 | int b => cases hT; rw [q0A.mp r] at rv; obtain ⟨tk, rfl⟩ := rv; exact ⟨_, PySem.W.kitx_int, True.intro, (λ z => nomatch z), by simp⟩
 | str b => cases hT; rw [(q2a.mp r).1] at rv; obtain ⟨tk, rfl⟩ := rv; exact ⟨_, PySem.W.kitx_str, True.intro, (λ z => nomatch z), by simp⟩
 | tup ds =>
  cases hT
  obtain ⟨a, xs, e1, e2, e3⟩ := q0z.mp r
  rw [e1] at rv; cases rv
  obtain ⟨its, _, ⟨o, h1, h2, _⟩, _⟩ := I.tuple e2
  exact ⟨_, PySem.W.kitx_tuple, ⟨o, h1, h2⟩, (λ z => nomatch z), by simp⟩
 | lst ds =>
  cases hT
  obtain ⟨a, xs, e1, e2, e3⟩ := q0u.mp r
  rw [e1] at rv; cases rv
  obtain ⟨_, its, n, _, _, h1⟩ := I.lstM e2
  exact ⟨_, PySem.W.kitx_list, ⟨_, h1, rfl⟩, (λ z => nomatch z), by simp⟩
 | dct ks vs =>
  cases hT
  obtain ⟨a, ob, kvs, e1, e2, _⟩ := q2r.mp r
  rw [e1] at rv; cases rv
  obtain ⟨_, _, _, _, _, ⟨o, _, _, h1, h2, _⟩⟩ := (show q0Y X.prog X.w H s.heap a (.frz ob (.dK kvs)) from I.hok a _ e2)
  exact ⟨_, PySem.W.kitx_dict, ⟨o, h1, h2.1⟩, (λ z => nomatch z), by simp⟩
 | exc _ => cases hT
 | fn _ => cases hT
 | scr _ => cases hT
noncomputable def z6j (X : Cx) : List V -> Hp -> VK -> Prop := λ xs H Q => ∃ d T t1 t2 x q, xs = [x, .ref q] /\ Rep X.D H d x /\ tyS d = some T /\ t1 ∈ ["int", "bool", "str", "list", "tuple", "dict"] /\ t2 ∈ ["int", "bool", "str", "list", "tuple", "dict"] /\ H q = some (.tup [.ty t1, .ty t2]) /\ Q (.bl (tyIs T t1 || tyIs T t2)) H
theorem q7V : q2l X (.builtin "isinstance") (z6j X) := by
 intro pins s σ H xs us Q I r h
 obtain ⟨d, T, t1, t2, x, q, rfl, r1, hT, h1, h2, hq, k⟩ := h
 obtain ⟨u, w', rfl, ru, rw'⟩ := q7i r
 cases rw'
 obtain ⟨HH, Z, z1, z2, z3⟩ := z3m I r1 ru hT
 obtain ⟨its, ri, ⟨⟨oc, od, oda, osl⟩, o1, o2, n, o3⟩, _⟩ := I.tuple (SqT.of hq)
 obtain ⟨u1, u2, e, v1, v2⟩ := q7i ri
 have o2' : oc = .type "tuple" := o2
 have o3' : oda = .seq its.toArray n := o3
 subst o2' o3'
 cases v1; cases v2
 subst e
 exact PySem.W.kia_tup Z I.kIn z1 o1 (z2z z3 h1 h2) z2 λ tk => ⟨.bl _, H, I.tok tk, rfl, k⟩
theorem q9U {x1 x2 : Str} {t1 t2 : String} {p1 p2 tp : Pos} {kk : Nat} {kf : DV -> Option Bool} (h1 : q3c x1 = some t1) (h2 : q3c x2 = some t2) (hg : Gl X "isinstance") (hm : X.mg "isinstance" = none)
  (g1 : Gl X x1) (m1 : X.mg x1 = none) (n1 : x1 ≠ "__name__") (d1 : (x1 == ("__debug__" : Str)) = false) (g2 : Gl X x2) (m2 : X.mg x2 = none) (n2 : x2 ≠ "__name__") (d2 : (x2 == ("__debug__" : Str)) = false)
  (hkf : ∀ d k, kf d = some k -> ∃ T, tyS d = some T /\ k = ((tyOf d).contains x1 || (tyOf d).contains x2))
  (ha : ∀ q, ra = some q -> PE X e (dE X.D E δ q)) (hs : q0k e = false) (h : (Re.thn ra λ y _ => (kf y).map λ k => .ok (.bl k) .strong) = some re) :
  PE X (.Call (.Name "isinstance" p) [e, .Tuple [.Name x1 p1, .Name x2 p2] kk tp] [] pos) (dE X.D E δ re) := by
 obtain ⟨b1, b2, b3⟩ := q4B h1
 obtain ⟨c1, c2, c3⟩ := q4B h2
 have T1 : PE X (.Name x1 p1) (tC (.ty t1)) := q5I g1 m1 b1 rfl n1 d1
 have T2 : PE X (.Name x2 p2) (tC (.ty t2)) := q5I g2 m2 c1 rfl n2 d2
 have TT := z0w (pos := tp) (x1 := kk) (q0V T1 (q0V T2 q3b))
 have C := λ ta (hA : PE X e ta) => q4s (p := p) (pos := pos) q7V hg hm boot_isinstance (q0V hA (q0V TT q3b) (q0i hs)) (by decide) (by decide) (q0i hs)
 cases hra : ra with
 | none => rw [hra] at h; cases h
 | some q =>
  rw [hra] at h
  have A := ha q hra
  cases q with
  | ex c => cases h; exact (C _ A).weak λ σ H Q ⟨O, W, R, p⟩ => ⟨O, W, R, p⟩
  | ok d cl =>
   obtain ⟨k, e1, e2⟩ := Option.map_eq_some_iff.mp (show ((kf d).map λ k => Re.ok (.bl k) .strong) = some re from h)
   cases e2
   obtain ⟨T, hT, hk⟩ := hkf d k e1
   have ek : k = (tyIs T t1 || tyIs T t2) := by rw [hk, q7y h1 hT, q7y h2 hT]; rfl
   exact (C _ A).weak λ σ H Q ⟨O, W, R, p⟩ => ⟨O, W, R, λ v H1 s1 g1 => ⟨show (2 : Nat) <= sizeLine by decide, λ q hq => ⟨d, T, t1, t2, v, q, rfl, (g1.all (R.hid.mono s1)).mono (q0h hq), hT, b2, c2, q0m, by rw [← ek]; exact p _ _ (s1.trans (q0h hq)) q4e⟩⟩⟩
end
end L2
end
section
namespace L2
open PySem PySem.Spec PyProof.Rows
noncomputable def z5m (i : Int) (te : TE) : TE := λ σ H Q => ∀ a, H a = none -> te σ (upd H a (.dK [])) λ x H1 => H1 a = some (.dK []) /\ ∀ o, Q (.ref a) (upd H1 a (.frz o (.dK [(.inl i, x)])))
section
variable {X : Cx} {E : St -> XK} {δ : List Sv} {v : Expr} {te : TE} {pos kpos : Pos} {i : Int} {j : Nat}
theorem Inv.notSys {pins : List (Addr × Obj)} {σ : St} {H : Hp} {s : Shared} (I : Inv X pins σ H s) {a : Addr} (h : s.heap.objs.size <= a) : (a == sysModules) = false := by
 have h1 : mainGlobals < X.base.objs.size := I.mod.glob.lt
 have h2 := Nat.le_trans I.ok.bsz I.sz
 have : (1 : Nat) < a := Nat.lt_of_lt_of_le (Nat.lt_of_le_of_lt (by decide : (1 : Nat) <= mainGlobals) h1) (Nat.le_trans h2 h)
 exact beq_eq_false_iff_ne.mpr (Nat.ne_of_gt this)
theorem z1v (hv : PE X v te) : PE X (.Dict [some (.Constant (.int i) j kpos)] [v] pos) (z5m i te) := by
 intro pins s σ H Q I h
 have hf : H s.heap.objs.size = none := I.hok.fresh (Nat.le_refl _)
 have ns := I.notSys (Nat.le_refl _)
 have I0 : Inv X pins σ (upd H s.heap.objs.size (.dK [])) { s with heap := s.heap.push { cls := .type "dict", data := .dict #[] } } :=
  I.laid (t' := s.toks) (λ b u e => Heap.get?_push_of_some _ e) (Nat.le_refl _) ⟨Nat.zero_le _, ns, [], .nil, Heap.DictOf.new _⟩
 refine wpAny_Dict_walk (knd := q0H X.prog X.w) rfl rfl (by simp) (show (1 : Nat) <= 15 by decide) ?_
 refine pairTrees_cons_walk (thn (z0v (i := i) (j := j) (pos := kpos) pins _ σ _ (λ x H1 => x = .int i /\ te σ H1 λ y H2 => H2 s.heap.objs.size = some (.dK []) /\ ∀ o, Q (.ref s.heap.objs.size) (upd H2 s.heap.objs.size (.frz o (.dK [(.inl i, y)])))) I0 ⟨rfl, h _ hf⟩) λ ku s1 ⟨kx, H1, I1, rk, e, q⟩ => ?_)
 subst e
 obtain ⟨tk, rfl⟩ := rk
 refine thn (hv pins s1 σ H1 _ I1 q) λ vu s2 ⟨vx, H2, I2, rv, hd, q2⟩ => pairTrees_nil_walk ?_
 obtain ⟨z, ns', vs', kv, dd⟩ := (show q0Y X.prog X.w H2 s2.heap s.heap.objs.size (.dK []) from I2.hok _ _ hd)
 cases kv
 refine ⟨[(.inl i, vu)], ⟨show Value.isInt i (.int i tk) = true by simp [Value.isInt], rfl, trivial⟩, dd, λ h' hd' sb => ?_⟩
 obtain ⟨o, es, ep, e, r'⟩ := id hd'
 refine ⟨.ref s.heap.objs.size, upd H2 s.heap.objs.size (.frz o (.dK [(.inl i, vx)])), ?_, rfl, q2 o⟩
 exact I2.write (x := s.heap.objs.size) (e := s.heap.objs.size) (by rw [hd]; trivial) (.inl rfl) (λ b u hb e => sb.extBut b u hb e) ⟨o, e⟩ ⟨e, show (1 : Nat) <= sizeLine by decide, ns, [(.inl i, vu)], .cons ⟨rfl, rv⟩ .nil, hd'⟩
theorem q4f {O : List Addr} {H : Hp} {p b : Addr} {o u : HO} (hp : H p = some (.dK [])) (h : L2.wo O H b = some u) (hu : u ≠ .dK []) : L2.wo O (upd H p o) b = some u := by
 obtain ⟨hb, e⟩ := q0J h
 rw [q0n hb, q0j (λ z => by rw [z, hp] at e; cases e; exact hu rfl)]
 exact e
mutual
theorem q9f {D : Dm} {O : List Addr} {H : Hp} {p : Addr} {o : HO} (hp : H p = some (.dK [])) : ∀ {d : DV} {v : V}, Rep D (L2.wo O H) d v -> Rep D (L2.wo O (upd H p o)) d v
 | .non, _, h => by unfold Rep at h ⊢; exact h
 | .bl _, _, h => by unfold Rep at h ⊢; exact h
 | .int _, _, h => by unfold Rep at h ⊢; exact h
 | .str _, _, h => by unfold Rep at h ⊢; exact h
 | .tup ds, _, h => by
  unfold Rep at h ⊢
  obtain ⟨a, xs, e1, e2, e3⟩ := h
  refine ⟨a, xs, e1, ?_, q3l hp e3⟩
  rcases e2 with (h | ⟨o, h⟩) | h
  ·exact .inl (.inl (q4f hp h (by intro z; cases z)))
  ·exact .inl (.inr ⟨o, q4f hp h (by intro z; cases z)⟩)
  ·exact .inr h
 | .lst ds, _, h => by
  unfold Rep at h ⊢
  obtain ⟨a, xs, e1, e2, e3⟩ := h
  exact ⟨a, xs, e1, q4f hp e2 (by intro z; cases z), q3l hp e3⟩
 | .dct _ _, _, h => by
  unfold Rep at h ⊢
  obtain ⟨a, ob, kvs, e1, e2, e3, e4⟩ := h
  exact ⟨a, ob, kvs, e1, q4f hp e2 (by intro z; cases z), e3, q3l hp e4⟩
 | .exc C, _, h => by
  unfold Rep at h ⊢
  obtain ⟨a, C, e1, e2, e3⟩ := h
  exact ⟨a, C, e1, e2, q4f hp e3 (by intro z; cases z)⟩
 | .fn _, _, h => by unfold Rep at h ⊢; exact h
 | .scr _, _, h => by
  unfold Rep at h ⊢
  obtain ⟨a, e1, e2⟩ := h
  refine ⟨a, e1, ?_⟩
  rcases e2 with ⟨o, h⟩ | h
  ·exact .inl ⟨o, q4f hp h (by intro z; cases z)⟩
  ·exact .inr h
theorem q3l {D : Dm} {O : List Addr} {H : Hp} {p : Addr} {o : HO} (hp : H p = some (.dK [])) : ∀ {ds : List DV} {xs : List V}, RepL D (L2.wo O H) ds xs -> RepL D (L2.wo O (upd H p o)) ds xs
 | [], _, h => by unfold RepL at h ⊢; exact h
 | d :: ds, _, h => by
  unfold RepL at h ⊢
  obtain ⟨v, vs, e1, e2, e3⟩ := h
  exact ⟨v, vs, e1, q9f hp e2, q3l hp e3⟩
end
theorem z2I {ra : Option Re} {re : Re} (ha : ∀ q, ra = some q -> PE X v (dE X.D E δ q)) (h : (Re.thn ra λ d c => if stro d c then some (.ok (.dct [.i i] [d]) .strong) else none) = some re) :
  PE X (.Dict [some (.Constant (.int i) j kpos)] [v] pos) (dE X.D E δ re) := by
 cases hra : ra with
 | none => rw [hra] at h; cases h
 | some q =>
  rw [hra] at h
  have A := z1v (i := i) (j := j) (kpos := kpos) (pos := pos) (ha q hra)
  cases q with
  | ex c =>
   cases h
   exact A.weak λ σ H Q ⟨O, W, R, p⟩ a ha => ⟨O, W, R.mono (q0h ha), λ H' C m s => p H' C m ((q0h ha).trans s)⟩
  | ok d c =>
   have h' : (if stro d c then some (Re.ok (.dct [.i i] [d]) .strong) else none) = some re := h
   split at h'
   ·cases h'
    refine A.weak λ σ H Q ⟨O, W, R, p⟩ a ha => ⟨O, W, R.mono (q0h ha), λ x H1 s1 g => ⟨s1 _ _ q0m, λ ob => ?_⟩⟩
    have hao : a ∉ O ++ W := λ z => R.hid.ot a z ha
    have sm : Same H (upd H1 a (.frz ob (.dK [(.inl i, x)]))) := λ b u e => by
     have hb : b ≠ a := q0o e ha
     rw [q0j hb]
     exact s1 _ _ (by rw [q0j hb]; exact e)
    have hid1 : Hid O W (upd H a (.dK [])) H1 := ((R.mono (q0h ha)).hid).mono s1
    have hx := g.stro hid1 (by assumption)
    have hx2 := q9f (p := a) (o := .frz ob (.dK [(.inl i, x)])) (s1 _ _ q0m) hx
    exact p _ _ sm (q2r.mpr ⟨a, ob, _, rfl, by rw [q0n hao]; exact q0m, rfl, RepL.one hx2⟩ : Rep X.D (L2.wo (O ++ W) _) (.dct [.i i] [d]) _)
   ·cases h'
theorem z3d : PE X (.Dict [] [] pos) (λ σ H Q => ∀ a o, H a = none -> Q (.ref a) (upd H a (.frz o (.dK [])))) := λ pins s σ H Q I h =>
 wpAny_Dict_empty ⟨.ref s.heap.objs.size, _, I.laid (a := s.heap.objs.size) (o := .frz { cls := .type "dict", data := .dict #[] } (.dK [])) (t' := s.toks) (λ _ _ q => Heap.get?_push_of_some _ q) (Nat.le_refl _) ⟨Heap.get?_push_size _ rfl, Nat.zero_le _, I.notSys (Nat.le_refl _), [], .nil, Heap.DictOf.new _⟩, rfl, h _ _ (I.hok.fresh (Nat.le_refl _))⟩
theorem z1J : PE X (.Dict [] [] pos) (dE X.D E δ (.ok (.dct [] []) .strong)) :=
 z3d.weak λ σ H Q ⟨O, W, R, p⟩ a ob ha => p _ _ (q0h ha) (q2r.mpr ⟨a, ob, _, rfl, by rw [q0n λ z => R.hid.ot a z ha]; exact q0m, rfl, q0q.mpr rfl⟩ : Rep X.D (L2.wo (O ++ W) _) (.dct [] []) _)
end
end L2
end
section
namespace L2
open PySem PySem.Spec PyProof.Rows
theorem q4j : ∀ {acc : List Value} {f : Nat -> Int}, (∀ j v, acc[j]? = some v -> ∃ t, v = Value.int (f j) t) -> Vals ((List.range acc.length).map λ (i : Nat) => V.int (f i)) acc
 | [], _, _ => .nil
 | x :: r, f, h => by
  rw [List.length_cons, List.range_succ_eq_map, List.map_cons, List.map_map]
  exact .cons (h 0 x rfl) (q4j (f := λ i => f (i + 1)) λ j v e => h (j + 1) v (by simpa using e))
section
variable {X : Cx} {E : St -> XK} {δ : List Sv} {e : Expr} {pos p : Pos} {re : Re} {rs : Option Rs}
theorem z2d {ta : TA} {p2 pos2 : Pos} (hc : X.calm = true) (hg2 : Gl X "list") (hm2 : X.mg "list" = none) (hg : Gl X "range") (hm : X.mg "range" = none) (ha : PA X [e] ta) (hs : starEach [e] X.env = [(false, eval e X.env)]) :
  PE X (.Call (.Name "list" p) [.Call (.Name "range" p2) [e] [] pos2] [] pos) (tCB (λ vs H Q => ∃ j : Int, vs = [.int j] /\ -(2 ^ 62) <= j /\ j <= 1000000 /\ ∀ q, H q = none -> Q (.ref q) (upd H q (.lst ((List.range j.toNat).map λ (i : Nat) => V.int (0 + i))))) ta) := by
 intro pins s σ H R I h
 refine Call_ (q2q I hg2 hm2 boot_list (PyProof.Rows.callWith_type1 ?_ rfl rfl))
 show wpAny _ _ (spliced ((false, eval (.Call (.Name "range" p2) [e] [] pos2) X.env) :: backTo pos (starEach [] X.env))) _ _ s
 refine Calls.spliced_cons (Call_ (q2q I hg hm boot_range (PyProof.Rows.callWith_type1 (thn (ha pos2 pins s σ H _ I h) λ us s1 ⟨vs, H1, I1, r1, q1⟩ => ?_) hs rfl)))
 obtain ⟨j, e, q1, q2, q⟩ := q1
 subst e
 cases r1 with
 | cons r rr =>
  cases rr
  obtain ⟨t, rfl⟩ := r
  have I2 : Inv X pins σ H1 { s1 with heap := s1.heap.push { cls := .type "range", data := .fields #[.int 0 s1.toks, .int j t, .int 1 (s1.toks + 1)] }, toks := s1.toks + 1 + 1 } := I1.kept λ b o e => Heap.get?_push_of_some _ e
  have hz : Builtin.Range.rangeSize 0 j 1 = (j.toNat : Int) := by rw [rangeSize_one]; split <;> omega
  refine call_range_1 (Calls.spliced_nil (call_list_range (n := j.toNat) (I1.ok.hd hc) (IsRange.new ..) (small_one (by omega) (by omega) q1 (by omega)) hz (by omega) λ h' tk acc c' kp e ⟨z1, z2⟩ => ?_))
  have vv : Vals ((List.range j.toNat).map λ (i : Nat) => V.int (0 + i)) acc.toList := by
   have := q4j (acc := acc.toList) (f := λ i => 0 + (i : Int)) λ k v ek => by
    obtain ⟨t', e'⟩ := z2 k v (by simpa using ek)
    exact ⟨t', by rw [e', Int.mul_one]⟩
   rwa [show acc.toList.length = j.toNat from by simpa using z1] at this
  refine ⟨.ref _, _, I2.laid (t' := tk) kp (Nat.le_refl _) (show q0Y X.prog X.w _ h' _ (.lst ((List.range j.toNat).map λ (i : Nat) => V.int (0 + i))) from ⟨?_, acc.toList, c', vv, e⟩), rfl, q _ (I2.hok.fresh (Nat.le_refl _))⟩
  rw [List.length_map, List.length_range]; show j.toNat <= sizeLine; unfold sizeLine; omega
theorem q9L {p2 pos2 : Pos} (hc : X.calm = true) (hg2 : Gl X "list") (hm2 : X.mg "list" = none) (hg : Gl X "range") (hm : X.mg "range" = none)
  (ha : ∀ q, rs = some q -> PA X [e] (dA X.D E δ q)) (hs : q0k e = false) (h : Rs.thn rs q9S = some re) : PE X (.Call (.Name "list" p) [.Call (.Name "range" p2) [e] [] pos2] [] pos) (dE X.D E δ re) :=
 q2J (λ t hA => z2d hc hg2 hm2 hg hm hA (q0i hs)) ha h λ O W H0 H vs Q l σ hl hd g pp => by
  unfold q9S at hl
  split at hl
  ·rename_i j c
   split at hl
   ·rename_i m
    cases hl
    rw [Bool.and_eq_true, decide_eq_true_eq, decide_eq_true_eq] at m
    obtain ⟨v, rfl, gv⟩ := g.one
    refine ⟨j, by rw [gv.int hd], m.1, by have := m.2; unfold mostLen at this; omega, λ q hq => pp _ _ (q0h hq) (q1x hd hq ?_)⟩
    have := q1n (D := X.D) (H := L2.wo (O ++ W) H) ((List.range j.toNat).map λ (i : Nat) => (0 + i : Int))
    rw [List.map_map, List.map_map] at this
    exact this
   ·cases hl
  ·cases hl
end
end L2
end
section
namespace L2
open PySem PySem.Spec PyProof.Rows
structure Wk (D : Dm) (J : It) (ds : List DV) (Oc Oi : List Addr) (H1 : Hp) : Prop where
 go : ∀ i H, Same (L2.wo Oc H1) (L2.wo Oc H) -> i < ds.length -> J.go i H
 same : ∀ i H x H', J.yld i H x H' -> Same H H'
 yld : ∀ i H x H' d O2, Same (L2.wo Oc H1) (L2.wo Oc H) -> Same (L2.wo Oi H1) (L2.wo Oi H) -> J.yld i H x H' -> ds[i]? = some d -> (∀ a ∈ O2, H a ≠ none /\ (a ∈ Oi \/ H1 a = none)) -> Rep D (L2.wo O2 H') d x
 stop : ∀ H, Same (L2.wo Oc H1) (L2.wo Oc H) -> J.stop ds.length H
noncomputable def hidW (O W : List Addr) : Cl -> List Addr
 | .top => O
 | .weak => O
 | _ => O ++ W
noncomputable def z5M (D : Dm) (E : St -> XK) (σ : St) (O W : List Addr) (H : Hp) (R : It -> Hp -> Prop) : Ri -> Prop
 | .ok ds c => ∀ J H', Same H H' -> Wk D J ds (hidW O W c) (q0Q O W c) H' -> R J H'
 | .ex c => ∀ H' C, D.mg c = some C -> Same H H' -> E σ C none H'
noncomputable def dI (D : Dm) (E : St -> XK) (δ : List Sv) (r : Ri) : TI := λ σ H R => ∃ O W, RSt D H σ δ O W /\ z5M D E σ O W H R r
theorem PI.weak {X : Cx} {tg iter : Expr} {t t' : TI} (h : PI X tg iter t) (k : ∀ σ H R, t' σ H R -> t σ H R) : PI X tg iter t' := λ pins s σ H R I q => h pins s σ H R I (k σ H R q)
theorem q6G {O O2 : List Addr} {H1 H : Hp} (s : Same (L2.wo O H1) (L2.wo O H)) (h : ∀ a ∈ O2, H a ≠ none /\ (a ∈ O \/ H1 a = none)) : Same (L2.wo O H1) (L2.wo O2 H) := λ b o e => by
 have q := s b o e
 obtain ⟨hb, e⟩ := q0J e
 obtain ⟨_, q⟩ := q0J q
 rw [q0n λ z => ?_]
 ·exact q
 ·rcases (h b z).2 with w | w
  ·exact hb w
  ·rw [w] at e; cases e
theorem Wk.list {D : Dm} {ds : List DV} {Oc Oi : List Addr} {H1 : Hp} {a : Addr} {xs : List V} (h : SqL D.K (L2.wo Oc H1) a xs) (r : RepL D (L2.wo Oi H1) ds xs) : Wk D (Itl D.K a) ds Oc Oi H1 where
 go := λ i H s hi => ⟨xs, xs[i]'(by rw [r.length]; exact hi), q0F.seq (s.seq h), List.getElem?_eq_getElem _⟩
 same := λ i H x H' y => by rw [y.1]; exact Same.refl _
 yld := λ i H x H' d O2 s s' y e ho => by
  obtain ⟨e1, y⟩ := y
  subst e1
  obtain ⟨v, q1, q2⟩ := r.get e
  have := y xs (q0F.seq (s.seq h))
  rw [q1] at this; cases this
  exact q2.mono (q6G s' ho)
 stop := λ H s => ⟨xs, q0F.seq (s.seq h), by rw [r.length]; exact Nat.le_refl _⟩
theorem Wk.tup {D : Dm} {ds : List DV} {Oc Oi : List Addr} {H1 : Hp} {a : Addr} {xs : List V} (h : SqT D.K (L2.wo Oc H1) a xs) (r : RepL D (L2.wo Oi H1) ds xs) : Wk D (Itt D.K a) ds Oc Oi H1 where
 go := λ i H s hi => ⟨xs, xs[i]'(by rw [r.length]; exact hi), q0F.tseq (s.tseq h), List.getElem?_eq_getElem _⟩
 same := λ i H x H' y => by rw [y.1]; exact Same.refl _
 yld := λ i H x H' d O2 s s' y e ho => by
  obtain ⟨e1, y⟩ := y
  subst e1
  obtain ⟨v, q1, q2⟩ := r.get e
  have := y xs (q0F.tseq (s.tseq h))
  rw [q1] at this; cases this
  exact q2.mono (q6G s' ho)
 stop := λ H s => ⟨xs, q0F.tseq (s.tseq h), by rw [r.length]; exact Nat.le_refl _⟩
theorem q2B (lo : Int) (n : Nat) : (upTo lo n).length = n := by unfold upTo; rw [List.length_map, List.length_range]
theorem q9M {lo : Int} {n i : Nat} {d : DV} (h : (upTo lo n)[i]? = some d) : i < n /\ d = .int (lo + i) := by
 have hl : i < n := by have := (List.getElem?_eq_some_iff.mp h).1; rw [q2B] at this; exact this
 unfold upTo at h
 rw [List.getElem?_map, List.getElem?_range hl] at h
 cases h
 exact ⟨hl, rfl⟩
theorem Wk.range {D : Dm} {Oc Oi : List Addr} {H1 : Hp} (lo : Int) (n : Nat) : Wk D (Itr lo n) (upTo lo n) Oc Oi H1 where
 go := λ i H s hi => by rw [q2B] at hi; exact hi
 same := λ i H x H' y => by rw [y.1]; exact Same.refl _
 yld := λ i H x H' d O2 s s' y e ho => by
  obtain ⟨e1, y⟩ := y
  subst e1
  obtain ⟨_, e2⟩ := q9M e
  subst e2
  exact q0A.mpr y
 stop := λ H s => by rw [q2B]; exact Nat.le_refl _
theorem q1M (hi : Int) (n : Nat) : (q3V hi n).length = n := by unfold q3V; rw [List.length_map, List.length_range]
theorem q6M {hi : Int} {n i : Nat} {d : DV} (h : (q3V hi n)[i]? = some d) : i < n /\ d = .int (hi - i) := by
 have hl : i < n := by have := (List.getElem?_eq_some_iff.mp h).1; rw [q1M] at this; exact this
 unfold q3V at h
 rw [List.getElem?_map, List.getElem?_range hl] at h
 cases h
 exact ⟨hl, rfl⟩
theorem Wk.down {D : Dm} {Oc Oi : List Addr} {H1 : Hp} (hi : Int) (n : Nat) : Wk D (Itd hi n) (q3V hi n) Oc Oi H1 where
 go := λ i H s h => by rw [q1M] at h; exact h
 same := λ i H x H' y => by rw [y.1]; exact Same.refl _
 yld := λ i H x H' d O2 s s' y e ho => by
  obtain ⟨e1, y⟩ := y
  subst e1
  obtain ⟨_, e2⟩ := q6M e
  subst e2
  exact q0A.mpr y
 stop := λ H s => by rw [q1M]; exact Nat.le_refl _
section
variable {X : Cx} {E : St -> XK} {δ : List Sv} {tg e e' : Expr} {es : List Expr} {pos p : Pos} {ra rb : Option Re} {rs : Option Rs} {ri : Ri}
theorem Got.walkL {D : Dm} {O W : List Addr} {H0 H : Hp} {ds : List DV} {c : Cl} {v : V} (g : Got D O W H0 H (.lst ds) c v) (hd : Hid O W H0 H) : ∃ a xs, v = .ref a /\ SqL D.K (L2.wo (hidW O W c) H) a xs /\ RepL D (L2.wo (q0Q O W c) H) ds xs := by
 cases c with
 | weak => obtain ⟨a, xs, e1, e2, e3⟩ := q0u.mp g; exact ⟨a, xs, e1, SqL.of e2, e3⟩
 | top => obtain ⟨a, xs, e1, e0, e2, e3⟩ := g; exact ⟨a, xs, e1, SqL.of e2, e3⟩
 | strong => obtain ⟨a, xs, e1, e2, e3⟩ := q0u.mp g; exact ⟨a, xs, e1, SqL.of e2, e3⟩
 | fresh => obtain ⟨a, xs, e1, e2, e3⟩ := q0u.mp (g.strong hd); exact ⟨a, xs, e1, SqL.of e2, e3⟩
 | ft => obtain ⟨a, xs, e1, e2, e3⟩ := q0u.mp (g.ft hd); exact ⟨a, xs, e1, SqL.of e2, e3⟩
theorem Got.walkT {D : Dm} {O W : List Addr} {H0 H : Hp} {ds : List DV} {c : Cl} {v : V} (g : Got D O W H0 H (.tup ds) c v) (hd : Hid O W H0 H) : ∃ a xs, v = .ref a /\ SqT D.K (L2.wo (hidW O W c) H) a xs /\ RepL D (L2.wo (q0Q O W c) H) ds xs := by
 cases c with
 | weak => exact q0z.mp g
 | top =>
  obtain ⟨a, xs, e1, e2, e3⟩ := q0z.mp (show Rep D (L2.wo (O ++ W) H) (.tup ds) v from g)
  exact ⟨a, xs, e1, (q0x q4W).tseq e2, e3⟩
 | strong => exact q0z.mp g
 | fresh => obtain ⟨_, _, _, _, q, _⟩ := g; cases q
 | ft => exact q0z.mp (g.ft hd)
theorem Got.walkS {D : Dm} {O W : List Addr} {H0 H : Hp} {ns : List Int} {c : Cl} {v : V} (g : Got D O W H0 H (.scr ns) c v) (hd : Hid O W H0 H) : ∃ a, v = .ref a /\ SqL D.K (L2.wo (hidW O W c) H) a (ns.map V.int) := by
 cases c with
 | weak => obtain ⟨a, e1, e2⟩ := q1G.mp g; exact ⟨a, e1, e2.sq⟩
 | top => obtain ⟨a, e1, e2⟩ := q1G.mp (show Rep D (L2.wo (O ++ W) H) (.scr ns) v from g); exact ⟨a, e1, (q0x q4W).seq e2.sq⟩
 | strong => obtain ⟨a, e1, e2⟩ := q1G.mp g; exact ⟨a, e1, e2.sq⟩
 | fresh => obtain ⟨_, _, _, _, q, _⟩ := g; cases q
 | ft => obtain ⟨a, e1, e2⟩ := q1G.mp (g.ft hd); exact ⟨a, e1, e2.sq⟩
theorem q6D (ha : ∀ q, ra = some q -> PE X e (dE X.D E δ q)) (h : q0N ra = some ri) : PI X tg e (dI X.D E δ ri) := by
 cases hra : ra with
 | none => rw [hra] at h; cases h
 | some q =>
  rw [hra] at h
  have A := ha q hra
  cases q with
  | ex c => cases h; exact (q5K A).weak λ σ H R' ⟨O, W, R, p⟩ => ⟨O, W, R, p⟩
  | ok d c =>
   obtain ⟨ds, e1, e2⟩ := Option.map_eq_some_iff.mp (show ((seqD d).map λ ds => Ri.ok ds c) = some ri from h)
   cases e2
   unfold seqD at e1
   split at e1
   ·cases e1
    exact (q5K A).weak λ σ H R' ⟨O, W, R, p⟩ => ⟨O, W, R, λ v H1 s1 g1 => by
     obtain ⟨a, e1, e2⟩ := g1.walkS (R.hid.mono s1)
     exact ⟨a, e1, ⟨_, q0F.seq e2⟩, p _ H1 s1 (.list e2 (q1n _))⟩⟩
   ·cases e1
    exact (q5K A).weak λ σ H R' ⟨O, W, R, p⟩ => ⟨O, W, R, λ v H1 s1 g1 => by
     obtain ⟨a, xs, e1, e2, e3⟩ := g1.walkL (R.hid.mono s1)
     exact ⟨a, e1, ⟨xs, q0F.seq e2⟩, p _ H1 s1 (.list e2 e3)⟩⟩
   ·cases e1
    exact (z4q A).weak λ σ H R' ⟨O, W, R, p⟩ => ⟨O, W, R, λ v H1 s1 g1 => by
     obtain ⟨a, xs, e1, e2, e3⟩ := g1.walkT (R.hid.mono s1)
     exact ⟨a, e1, ⟨xs, q0F.tseq e2⟩, p _ H1 s1 (.tup e2 e3)⟩⟩
   ·cases e1
theorem q1A {i : Int} (h : q1a i = true) : -(2 ^ 62) <= i /\ i < 2 ^ 62 := by
 unfold q1a at h
 simpa [Bool.and_eq_true] using h
theorem q4F {o : Option (List DV)} {ri : Ri} (h : q0N (o.map λ ds => Re.ok (.lst ds) .fresh) = some ri) : ∃ ds, o = some ds /\ ri = .ok ds .fresh := by
 cases o with
 | none => cases h
 | some ds => cases h; exact ⟨ds, rfl, rfl⟩
theorem q6O (hg : Gl X "range") (hm : X.mg "range" = none) (ha : ∀ q, rs = some q -> PA X [e] (dA X.D E δ q)) (hs : q0k e = false) (h : q0N (Rs.thn rs λ l => (rngD l).map λ ds => Re.ok (.lst ds) .fresh) = some ri) (hl : ∀ l, rs = some (.ok l) -> l.length = 1) :
  PI X tg (.Call (.Name "range" p) [e] [] pos) (dI X.D E δ ri) := by
 have C := λ t (hA : PA X [e] t) => q7w (tg := tg) (p := p) (pos := pos) hg hm hA (q0i hs)
 cases hrs : rs with
 | none => rw [hrs] at h; cases h
 | some q =>
  rw [hrs] at h
  have A := ha q hrs
  cases q with
  | ex c => cases h; exact (C _ A).weak λ σ H R' ⟨O, W, R, p⟩ => ⟨O, W, R, p⟩
  | ok l =>
   have l1 := hl l hrs
   obtain ⟨ds, e1, e2⟩ := q4F (show q0N ((rngD l).map λ ds => Re.ok (.lst ds) .fresh) = some ri from h)
   cases e2
   unfold rngD at e1
   split at e1
   ·rename_i j c
    split at e1
    ·rename_i m
     cases e1
     rw [Bool.and_eq_true] at m
     have q := q1A m.1
     exact (C _ A).weak λ σ H R' ⟨O, W, R, p⟩ => ⟨O, W, R, λ vs H1 s1 g1 => by
      obtain ⟨v, rfl, gv⟩ := g1.one
      exact ⟨j, by rw [gv.int (R.hid.mono s1)], q.1, q.2, p _ H1 s1 (.range _ _)⟩⟩
    ·cases e1
   ·cases l1
   ·cases l1
   ·cases e1
theorem q6S (hg : Gl X "range") (hm : X.mg "range" = none) (ha : ∀ q, rs = some q -> PA X [e, e'] (dA X.D E δ q)) (hs : q0k e = false) (hs' : q0k e' = false) (h : q0N (Rs.thn rs λ l => (rngD l).map λ ds => Re.ok (.lst ds) .fresh) = some ri) (hl : ∀ l, rs = some (.ok l) -> l.length = 2) :
  PI X tg (.Call (.Name "range" p) [e, e'] [] pos) (dI X.D E δ ri) := by
 have C := λ t (hA : PA X [e, e'] t) => q8R (tg := tg) (p := p) (pos := pos) hg hm hA (by rw [q0i hs, q0i hs']; rfl) (q0i hs')
 cases hrs : rs with
 | none => rw [hrs] at h; cases h
 | some q =>
  rw [hrs] at h
  have A := ha q hrs
  cases q with
  | ex c => cases h; exact (C _ A).weak λ σ H R' ⟨O, W, R, p⟩ => ⟨O, W, R, p⟩
  | ok l =>
   have l1 := hl l hrs
   obtain ⟨ds, e1, e2⟩ := q4F (show q0N ((rngD l).map λ ds => Re.ok (.lst ds) .fresh) = some ri from h)
   cases e2
   unfold rngD at e1
   split at e1
   ·cases l1
   ·rename_i i c j c'
    split at e1
    ·rename_i m
     cases e1
     rw [Bool.and_eq_true, Bool.and_eq_true] at m
     have q := q1A m.1.1
     have q' := q1A m.1.2
     exact (C _ A).weak λ σ H R' ⟨O, W, R, p⟩ => ⟨O, W, R, λ vs H1 s1 g1 => by
      obtain ⟨v, v', rfl, gv, gv'⟩ := g1.two
      exact ⟨i, j, by rw [gv.int (R.hid.mono s1), gv'.int (R.hid.mono s1)], ⟨q.1, q.2, q'.1, q'.2⟩, p _ H1 s1 (.range _ _)⟩⟩
    ·cases e1
   ·cases l1
   ·cases e1
theorem q7k {e'' : Expr} (hg : Gl X "range") (hm : X.mg "range" = none) (ha : ∀ q, rs = some q -> PA X [e, e', e''] (dA X.D E δ q)) (hs : q0k e = false) (hs' : q0k e' = false) (hs'' : q0k e'' = false) (h : q0N (Rs.thn rs λ l => (rngD l).map λ ds => Re.ok (.lst ds) .fresh) = some ri) (hl : ∀ l, rs = some (.ok l) -> l.length = 3) :
  PI X tg (.Call (.Name "range" p) [e, e', e''] [] pos) (dI X.D E δ ri) := by
 have C := λ t (hA : PA X [e, e', e''] t) => q7E (tg := tg) (p := p) (pos := pos) hg hm hA (by rw [q0i hs, q0i hs', q0i hs'']; rfl) (by rw [q0i hs', q0i hs'']; rfl)
 cases hrs : rs with
 | none => rw [hrs] at h; cases h
 | some q =>
  rw [hrs] at h
  have A := ha q hrs
  cases q with
  | ex c => cases h; exact (C _ A).weak λ σ H R' ⟨O, W, R, p⟩ => ⟨O, W, R, p⟩
  | ok l =>
   have l1 := hl l hrs
   obtain ⟨ds, e1, e2⟩ := q4F (show q0N ((rngD l).map λ ds => Re.ok (.lst ds) .fresh) = some ri from h)
   cases e2
   unfold rngD at e1
   split at e1
   ·cases l1
   ·cases l1
   ·rename_i i c j c' k c''
    split at e1
    ·rename_i m
     cases e1
     rw [Bool.and_eq_true, Bool.and_eq_true, Bool.and_eq_true, decide_eq_true_eq, decide_eq_true_eq] at m
     have q := q1A m.1.1.1
     have q' := q1A m.1.1.2
     have k1 := m.2
     subst k1
     exact (C _ A).weak λ σ H R' ⟨O, W, R, p⟩ => ⟨O, W, R, λ vs H1 s1 g1 => by
      obtain ⟨v, v', v'', rfl, gv, gv', gv''⟩ := g1.three
      exact ⟨i, j, by rw [gv.int (R.hid.mono s1), gv'.int (R.hid.mono s1), gv''.int (R.hid.mono s1)], ⟨q.1, q.2, q'.1, q'.2⟩, p _ H1 s1 (.down _ _)⟩⟩
    ·cases e1
   ·cases e1
end
noncomputable def q5X : List Nat -> TGs
 | [] => gNil
 | i :: is => z4t (q8p i) (q5X is)
noncomputable def gT (K : PySem.W.Frag) : Tg -> TG
 | .one i => q8p i
 | .many is => gTup K is.length (q5X is)
theorem RSt.setVal {D : Dm} {H : Hp} {σ : St} {δ : List Sv} {O W : List Addr} {v : V} {d : DV} (R : RSt D H σ δ O W) (r : Rep D (L2.wo (O ++ W) H) d v) (i : Nat) : RSt D H (σ.set i (some v)) (δ.set i (.val d)) O W where
 val := λ j d' h => by
  by_cases hj : j = i
  ·subst hj
   have hl : j < δ.length := by
    have := (List.getElem?_eq_some_iff.mp h).1
    rw [List.length_set] at this; exact this
   rw [List.getElem?_set_self hl] at h
   cases h
   exact ⟨v, List.getElem?_set_self (by rw [R.len]; exact hl), r⟩
  ·rw [List.getElem?_set_ne (Ne.symm hj)] at h ⊢
   exact R.val j d' h
 own := λ j ds' h => by
  by_cases hj : j = i
  ·subst hj
   have hl : j < δ.length := by
    have := (List.getElem?_eq_some_iff.mp h).1
    rw [List.length_set] at this; exact this
   rw [List.getElem?_set_self hl] at h
   cases h
  ·rw [List.getElem?_set_ne (Ne.symm hj)] at h ⊢
   exact R.own j ds' h
 inj := λ j k a d1 d2 h1 h2 e1 e2 => by
  have ne : ∀ {j : Nat} {d1 : DV}, (δ.set i (.val d))[j]? = some (.own d1) -> j ≠ i := λ {j d1} h1 z => by
   subst z
   have hl : j < δ.length := by
    have := (List.getElem?_eq_some_iff.mp h1).1
    rw [List.length_set] at this; exact this
   rw [List.getElem?_set_self hl] at h1
   cases h1
  have n1 := ne h1
  have n2 := ne h2
  rw [List.getElem?_set_ne (Ne.symm n1)] at h1 e1
  rw [List.getElem?_set_ne (Ne.symm n2)] at h2 e2
  exact R.inj j k a d1 d2 h1 h2 e1 e2
 ot := λ j d' h => by
  have ne : ∀ {j : Nat} {s : Sv}, (∀ d, s ≠ .val d) -> (δ.set i (.val d))[j]? = some s -> j ≠ i := λ {j s} hs h1 z => by
   subst z
   have hl : j < δ.length := by
    have := (List.getElem?_eq_some_iff.mp h1).1
    rw [List.length_set] at this; exact this
   rw [List.getElem?_set_self hl] at h1
   cases h1
   exact hs _ rfl
  have nj := ne (by intro d z; cases z) h
  rw [List.getElem?_set_ne (Ne.symm nj)] at h ⊢
  obtain ⟨⟨t, ts, p, xs, ds, es, e0, e1, e2, e3, e4, e5, e6, e7⟩, u⟩ := R.ot j d' h
  refine ⟨⟨t, ts, p, xs, ds, es, e0, e1, e2, e3, e4, e5, e6, λ k d2 q => ?_⟩, λ k d2 q => ?_⟩
  ·have nk := ne (by intro d z; cases z) q
   rw [List.getElem?_set_ne (Ne.symm nk)] at q ⊢
   exact e7 k d2 q
  ·have nk := ne (by intro d z; cases z) q
   rw [List.getElem?_set_ne (Ne.symm nk)] at q
   exact u k d2 q
 o2 := λ j d' h => by
  have ne : ∀ {j : Nat} {s : Sv}, (∀ d, s ≠ .val d) -> (δ.set i (.val d))[j]? = some s -> j ≠ i := λ {j s} hs h1 z => by
   subst z
   have hl : j < δ.length := by
    have := (List.getElem?_eq_some_iff.mp h1).1
    rw [List.length_set] at this; exact this
   rw [List.getElem?_set_self hl] at h1
   cases h1
   exact hs _ rfl
  have nj := ne (by intro d z; cases z) h
  rw [List.getElem?_set_ne (Ne.symm nj)] at h ⊢
  obtain ⟨⟨p, L, e0, e1, e2, e3⟩, u, n⟩ := R.o2 j d' h
  refine ⟨⟨p, L, e0, e1, e2, λ k d2 a q q2 => ?_⟩, λ k d2 q => ?_, λ k d2 q => ?_⟩
  ·have nk := ne (by intro d z; cases z) q
   rw [List.getElem?_set_ne (Ne.symm nk)] at q q2
   exact e3 k d2 a q q2
  ·have nk := ne (by intro d z; cases z) q
   rw [List.getElem?_set_ne (Ne.symm nk)] at q
   exact u k d2 q
  ·have nk := ne (by intro d z; cases z) q
   rw [List.getElem?_set_ne (Ne.symm nk)] at q
   exact n k d2 q
 od := R.od.step (q6x _ (by intro d z; cases z)) (λ _ h _ => h) (λ _ _ _ h => h)
 len := by rw [List.length_set, List.length_set]; exact R.len
 hid := R.hid
theorem q5p {D : Dm} {H : Hp} {O W : List Addr} {Q : St -> Hp -> Prop} : ∀ {is : List Nat} {ds : List DV} {xs : List V} {σ : St} {δ δ' : List Sv}, RSt D H σ δ O W -> RepL D (L2.wo (O ++ W) H) ds xs -> q3Z δ is ds = some δ' -> (∀ σ', RSt D H σ' δ' O W -> Q σ' H) -> q5X is xs σ H Q
 | [], [], xs, σ, δ, δ', R, r, h, q => by cases h; exact ⟨q0q.mp r, q σ R⟩
 | i :: is, d :: ds, xs, σ, δ, δ', R, r, h, q => by
  obtain ⟨v, vs, e1, e2, e3⟩ := q0e.mp r
  exact ⟨v, vs, e1, q5p (R.setVal e2 i) e3 h q⟩
 | [], _ :: _, _, _, _, _, _, _, h, _ => by cases h
 | _ :: _, [], _, _, _, _, _, _, h, _ => by cases h
theorem q1J : ∀ {is : List Nat} {ds : List DV} {δ δ' : List Sv}, q3Z δ is ds = some δ' -> is.length = ds.length /\ δ'.length = δ.length
 | [], [], _, _, h => by cases h; exact ⟨rfl, rfl⟩
 | i :: is, d :: ds, δ, δ', h => by
  obtain ⟨a, b⟩ := q1J (is := is) h
  exact ⟨by rw [List.length_cons, List.length_cons, a], by rw [b, List.length_set]⟩
 | [], _ :: _, _, _, h => by cases h
 | _ :: _, [], _, _, h => by cases h
theorem q5E {D : Dm} {H : Hp} {O W : List Addr} {Q : St -> Hp -> Prop} {tg : Tg} {d : DV} {x : V} {σ : St} {δ δ' : List Sv} (R : RSt D H σ δ O W) (r : Rep D (L2.wo (O ++ W) H) d x) (h : tg.bind d δ = some δ') (q : ∀ σ', RSt D H σ' δ' O W -> Q σ' H) : gT D.K tg x σ H Q := by
 cases tg with
 | one i => cases h; exact q _ (R.setVal r i)
 | many is =>
  unfold Tg.bind at h
  dsimp only at h
  split at h
  ·rename_i ds
   obtain ⟨a, xs, e1, e2, e3⟩ := q0z.mp r
   exact ⟨a, xs, e1, q0F.tseq e2, by rw [e3.length, (q1J h).1], q5p R e3 h q⟩
  ·cases h
theorem RSt.less {D : Dm} {H : Hp} {σ : St} {δ δ' : List Sv} {O W : List Addr} (R : RSt D H σ δ' O W) (hl : δ.length = δ'.length) (h : ∀ (i : Nat) sv, δ[i]? = some sv -> sv = .no \/ δ'[i]? = some sv) : RSt D H σ δ O W where
 val := λ i d e => by
  rcases h i _ e with z | z
  ·cases z
  ·exact R.val i d z
 own := λ i d e => by
  rcases h i _ e with z | z
  ·cases z
  ·exact R.own i d z
 inj := λ i j a d d' e e' => by
  rcases h i _ e with z | z
  ·cases z
  ·rcases h j _ e' with y | y
   ·cases y
   ·exact R.inj i j a d d' z y
 ot := λ i d e => by
  rcases h i _ e with z | z
  ·cases z
  ·obtain ⟨⟨t, ts, p, xs, ds, es, e0, e1, e2, e3, e4, e5, e6, e7⟩, u⟩ := R.ot i d z
   refine ⟨⟨t, ts, p, xs, ds, es, e0, e1, e2, e3, e4, e5, e6, λ k d2 q => ?_⟩, λ k d2 q => ?_⟩
   ·rcases h k _ q with y | y
    ·cases y
    ·exact e7 k d2 y
   ·rcases h k _ q with y | y
    ·cases y
    ·exact u k d2 y
 o2 := λ i d e => by
  rcases h i _ e with z | z
  ·cases z
  ·obtain ⟨⟨p, L, e0, e1, e2, e3⟩, u, n⟩ := R.o2 i d z
   refine ⟨⟨p, L, e0, e1, e2, λ k d2 a q q2 => ?_⟩, λ k d2 q => ?_, λ k d2 q => ?_⟩
   ·rcases h k _ q with y | y
    ·cases y
    ·exact e3 k d2 a y q2
   ·rcases h k _ q with y | y
    ·cases y
    ·exact u k d2 y
   ·rcases h k _ q with y | y
    ·cases y
    ·exact n k d2 y
 od := R.od.step (λ j d e => by
  rcases h j _ e with z | z
  ·cases z
  ·exact ⟨z, rfl⟩) (λ _ h _ => h) (λ _ _ _ h => h)
 len := by rw [hl]; exact R.len
 hid := R.hid
theorem q5Q : ∀ {is : List Nat} {ds : List DV} {δ δ' : List Sv}, q3Z δ is ds = some δ' -> (∀ i ∈ is, δ[i]? = some .no \/ δ[i]? = none) -> ∀ (i : Nat) sv, δ[i]? = some sv -> sv = .no \/ δ'[i]? = some sv
 | [], [], _, _, h, _, i, sv, e => by cases h; exact .inr e
 | j :: is, d :: ds, δ, δ', h, hn, i, sv, e => by
  by_cases hij : i ∈ j :: is
  ·rcases hn i hij with z | z
   ·rw [z] at e; cases e; exact .inl rfl
   ·rw [z] at e; cases e
  ·have hne : j ≠ i := λ z => hij (by rw [z]; exact List.mem_cons_self)
   have hni : i ∉ is := λ z => hij (List.mem_cons_of_mem _ z)
   have key : ∀ {is : List Nat} {ds : List DV} {δ δ' : List Sv}, q3Z δ is ds = some δ' -> i ∉ is -> δ[i]? = some sv -> δ'[i]? = some sv := by
    intro is
    induction is with
    | nil => intro ds δ δ' h _ e; cases ds with
     | nil => cases h; exact e
     | cons _ _ => cases h
    | cons k is ih => intro ds δ δ' h hi e; cases ds with
     | nil => cases h
     | cons d ds =>
      refine ih h (λ z => hi (List.mem_cons_of_mem _ z)) ?_
      rw [List.getElem?_set_ne (λ z => hi (by rw [z]; exact List.mem_cons_self))]
      exact e
   exact .inr (key h hij e)
 | [], _ :: _, _, _, h, _, _, _, _ => by cases h
 | _ :: _, [], _, _, h, _, _, _, _ => by cases h
theorem q4M {tg : Tg} {d : DV} {δ δ' : List Sv} (h : tg.bind d δ = some δ') (hn : ∀ i ∈ q2s tg, δ[i]? = some .no \/ δ[i]? = none) : δ.length = δ'.length /\ ∀ (i : Nat) sv, δ[i]? = some sv -> sv = .no \/ δ'[i]? = some sv := by
 cases tg with
 | one j =>
  cases h
  refine ⟨(List.length_set ..).symm, λ i sv e => ?_⟩
  by_cases hij : i = j
  ·subst hij
   rcases hn i (by simp [q2s]) with z | z
   ·rw [z] at e; cases e; exact .inl rfl
   ·rw [z] at e; cases e
  ·exact .inr (by rw [List.getElem?_set_ne (Ne.symm hij)]; exact e)
 | many is =>
  unfold Tg.bind at h
  dsimp only at h
  split at h
  ·exact ⟨(q1J h).2.symm, q5Q h hn⟩
  ·cases h
theorem RSt.inner {D : Dm} {H : Hp} {σ : St} {δ : List Sv} {O W : List Addr} (R : RSt D H σ δ O W) (fr : List (Option Nat)) (hnd : ∀ (j k i : Nat), fr[j]? = some (some i) -> fr[k]? = some (some i) -> j = k) : RSt D H (L2.inner fr σ) (q0t fr δ) O W := by
 have look : ∀ (j : Nat) sv, (q0t fr δ)[j]? = some sv -> sv ≠ .no -> ∃ i, fr[j]? = some (some i) /\ δ[i]? = some sv := λ j sv h hn => by
  unfold q0t at h
  rw [List.getElem?_map] at h
  cases q : fr[j]? with
  | none => rw [q] at h; cases h
  | some o =>
   rw [q] at h
   cases o with
   | none => cases h; exact absurd rfl hn
   | some i =>
    refine ⟨i, rfl, ?_⟩
    have h' : (δ.getD i .no).plain = sv := by simpa using h
    rw [List.getD_eq_getElem?_getD] at h'
    cases z : δ[i]? with
    | none => rw [z] at h'; exact absurd h'.symm hn
    | some sv' =>
     rw [z] at h'
     cases sv' with
     | ot d => exact absurd h'.symm hn
     | o2 d => exact absurd h'.symm hn
     | od d => exact absurd h'.symm hn
     | no => exact congrArg some h'
     | val d => exact congrArg some h'
     | own d => exact congrArg some h'
 have sig : ∀ (j i : Nat) (v : V), fr[j]? = some (some i) -> σ[i]? = some (some v) -> (L2.inner fr σ)[j]? = some (some v) := λ j i v q e => by
  unfold L2.inner
  rw [List.getElem?_map, q]
  simp [e]
 have noot : ∀ (j : Nat) d, (q0t fr δ)[j]? ≠ some (.ot d) := λ j d h => by
  unfold q0t at h
  rw [List.getElem?_map] at h
  cases q : fr[j]? with
  | none => rw [q] at h; cases h
  | some o =>
   rw [q] at h
   cases o with
   | none => cases h
   | some i =>
    have h' : (δ.getD i .no).plain = .ot d := by simpa using h
    cases z : δ.getD i .no with
    | ot d2 => rw [z] at h'; cases h'
    | o2 d2 => rw [z] at h'; cases h'
    | od d2 => rw [z] at h'; cases h'
    | no => rw [z] at h'; cases h'
    | val d2 => rw [z] at h'; cases h'
    | own d2 => rw [z] at h'; cases h'
 have nood : ∀ (j : Nat) d, (q0t fr δ)[j]? ≠ some (.od d) := λ j d h => by
  unfold q0t at h
  rw [List.getElem?_map] at h
  cases q : fr[j]? with
  | none => rw [q] at h; cases h
  | some o =>
   rw [q] at h
   cases o with
   | none => cases h
   | some i =>
    have h' : (δ.getD i .no).plain = .od d := by simpa using h
    cases z : δ.getD i .no with
    | ot d2 => rw [z] at h'; cases h'
    | o2 d2 => rw [z] at h'; cases h'
    | od d2 => rw [z] at h'; cases h'
    | no => rw [z] at h'; cases h'
    | val d2 => rw [z] at h'; cases h'
    | own d2 => rw [z] at h'; cases h'
 have noo2 : ∀ (j : Nat) d, (q0t fr δ)[j]? ≠ some (.o2 d) := λ j d h => by
  unfold q0t at h
  rw [List.getElem?_map] at h
  cases q : fr[j]? with
  | none => rw [q] at h; cases h
  | some o =>
   rw [q] at h
   cases o with
   | none => cases h
   | some i =>
    have h' : (δ.getD i .no).plain = .o2 d := by simpa using h
    cases z : δ.getD i .no with
    | ot d2 => rw [z] at h'; cases h'
    | o2 d2 => rw [z] at h'; cases h'
    | od d2 => rw [z] at h'; cases h'
    | no => rw [z] at h'; cases h'
    | val d2 => rw [z] at h'; cases h'
    | own d2 => rw [z] at h'; cases h'
 refine ⟨λ j d h => ?_, λ j d h => ?_, λ j k a d d' h1 h2 e1 e2 => ?_, λ j d h => absurd h (noot j d), λ j d h => absurd h (noo2 j d), λ j d h => absurd h (nood j d), ?_, R.hid⟩
 ·obtain ⟨i, q1, q2⟩ := look j _ h (by intro z; cases z)
  obtain ⟨v, e1, e2⟩ := R.val i d q2
  exact ⟨v, sig j i v q1 e1, e2⟩
 ·obtain ⟨i, q1, q2⟩ := look j _ h (by intro z; cases z)
  obtain ⟨a, xs, ds, e0, e1, e2⟩ := R.own i d q2
  exact ⟨a, xs, ds, e0, sig j i _ q1 e1, e2⟩
 ·obtain ⟨i, q1, q2⟩ := look j _ h1 (by intro z; cases z)
  obtain ⟨i', q1', q2'⟩ := look k _ h2 (by intro z; cases z)
  obtain ⟨b, xs, ds, _, z1, _⟩ := R.own i d q2
  obtain ⟨b', xs', ds', _, z1', _⟩ := R.own i' d' q2'
  have y := sig j i _ q1 z1
  have y' := sig k i' _ q1' z1'
  rw [e1] at y
  rw [e2] at y'
  cases y
  cases y'
  have := R.inj i i' a d d' q2 q2' z1 z1'
  subst this
  exact hnd j k i q1 q1'
 ·unfold L2.inner q0t; rw [List.length_map, List.length_map]
section
variable {X : Cx} {E : St -> XK} {δ : List Sv} {iter elt tgE : Expr} {ifs : List Expr} {pos : Pos} {N' : List Str} {scope : Scope} {fr : List (Option Nat)} {tg : Tg} {ri : Option Ri} {re : Re}
theorem q4H {D : Dm} {J : It} {ds : List DV} {O W : List Addr} {H H1 : Hp} {σ : St} {c : Cl} {g : DV -> Option Rc} {xs : List DV} {tc : TT} {te : TE} {δ0 : List Sv} {Q : VK} (w : Wk D J ds (hidW O W c) (q0Q O W c) H1) (hd0 : Hid O W H H) (hc : c ≠ .weak) (R : RSt D H1 σ δ0 O W)
  (hn : ∀ i ∈ q2s tg, δ0[i]? = some .no \/ δ0[i]? = none) (hz : ds.length <= sizeLine) (hx : q0K g ds = some xs) (s1 : Same H H1)
  (step : ∀ d rc, d ∈ ds -> g d = some rc -> ∃ δ', tg.bind d δ0 = some δ' /\ ∀ σ' H2, Same H1 H2 -> RSt D H2 σ' δ' O W -> ∀ K : Bool -> Hp -> Prop, (rc = .skip -> ∀ H3, Same H2 H3 -> K false H3) -> (∀ x, rc = .item x -> ∀ H3, Same H2 H3 -> K true H3) -> tc σ' H2 K)
  (stepE : ∀ d x, d ∈ ds -> g d = some (.item x) -> ∀ δ', tg.bind d δ0 = some δ' -> ∀ σ' H2, Same H1 H2 -> RSt D H2 σ' δ' O W -> ∀ K : VK, (∀ v H3, Same H2 H3 -> Rep D (L2.wo (O ++ W) H3) x v -> K v H3) -> te σ' H2 K)
  (fin : ∀ v H', Same H H' -> Got D O W H H' (.lst xs) .fresh v -> Q v H') :
  z1k J (gT D.K tg) tc te (λ ys H' => ∀ p, H' p = none -> Q (.ref p) (upd H' p (.lst ys))) σ H1 := by
 have ci : q0Q O W c = O ++ W := by cases c <;> first | rfl | exact absurd rfl hc
 rw [ci] at w
 refine ⟨λ i n ys σ' H' => n = ds.length - i /\ i <= ds.length /\ ys.length <= i /\ RSt D H' σ' δ0 O W /\ Same H1 H' /\ ∃ done rest, q0K g (ds.drop i) = some rest /\ done ++ rest = xs /\ RepL D (L2.wo (O ++ W) H') done ys,
  ⟨ds.length, rfl, Nat.zero_le _, Nat.zero_le _, R, Same.refl _, [], xs, hx, rfl, q0q.mpr rfl⟩, ?_⟩
 rintro i n ys σ2 H2 ⟨rfl, hi', hy, R2, s2, done, rest, h1, h2, r2⟩
 by_cases hlt : i < ds.length
 ·refine .inr ⟨w.go i H2 s2.wo hlt, Nat.lt_of_le_of_lt hy (Nat.lt_of_lt_of_le hlt hz), λ x' H3 y => ?_⟩
  have y1 := w.same i H2 x' H3 y
  have y3 : Rep D (L2.wo (O ++ W) H3) ds[i] x' := w.yld i H2 x' H3 _ (O ++ W) s2.wo s2.wo y (List.getElem?_eq_getElem hlt) λ a ha => ⟨R2.hid.ot a ha, .inl ha⟩
  rw [List.drop_eq_getElem_cons hlt] at h1
  have hm : ds[i] ∈ ds := List.getElem_mem hlt
  unfold q0K at h1
  split at h1
  ·cases h1
  ·rename_i q
   obtain ⟨δ', b1, b2⟩ := step _ _ hm q
   refine q5E (R2.mono y1) y3 b1 λ σ3 R3 => ?_
   have back := q4M b1 hn
   refine b2 σ3 H3 (s2.trans y1) R3 _ (λ _ H4 s4 => ?_) (λ x z => nomatch z)
   show if false = true then _ else _
   rw [if_neg Bool.false_ne_true]
   exact ⟨ds.length - (i + 1), by omega, rfl, hlt, Nat.le_succ_of_le hy, (R3.less back.1 back.2).mono s4, (s2.trans y1).trans s4, done, rest, h1, h2, r2.mono (y1.trans s4).wo⟩
  ·rename_i x q
   split at h1
   ·cases h1
   ·rename_i rest' q'
    cases h1
    obtain ⟨δ', b1, b2⟩ := step _ _ hm q
    refine q5E (R2.mono y1) y3 b1 λ σ3 R3 => ?_
    have back := q4M b1 hn
    refine b2 σ3 H3 (s2.trans y1) R3 _ (λ z => nomatch z) (λ x' z H4 s4 => ?_)
    cases z
    show if true = true then _ else _
    rw [if_pos rfl]
    refine stepE _ x hm q δ' b1 σ3 H4 ((s2.trans y1).trans s4) (R3.mono s4) _ λ v H5 s5 rv => ?_
    exact ⟨ds.length - (i + 1), by omega, rfl, hlt, by rw [List.length_append, List.length_singleton]; omega, (R3.less back.1 back.2).mono (s4.trans s5), ((s2.trans y1).trans s4).trans s5, done ++ [x], rest', q', by rw [List.append_assoc]; exact h2,
     (r2.mono ((y1.trans s4).trans s5).wo).append (RepL.one rv)⟩
 ·have e : i = ds.length := by omega
  subst e
  rw [List.drop_length] at h1
  cases h1
  rw [List.append_nil] at h2
  subst h2
  have s0 := s1.trans s2
  refine .inl ⟨w.stop H2 s2.wo, λ p hp => fin _ _ (s0.trans (q0h hp)) ?_⟩
  have hd : Hid O W H H2 := hd0.mono s0
  exact q1x hd hp r2
noncomputable abbrev E0s : St -> XK := λ _ _ _ _ => False
theorem PE.any {Y : Cx} {e : Expr} {ι : Sort _} {t : ι -> TE} (h : ∀ k, PE Y e (t k)) : PE Y e (λ σ H Q => ∃ k, t k σ H Q) := λ pins s σ H Q I ⟨k, q⟩ => h k pins s σ H Q I q
theorem PTs.any {Y : Cx} {ι : Sort _} {es : List Expr} {t : ι -> TT} (h : ∀ k, PTs Y es (t k)) : PTs Y es (λ σ H Q => ∃ k, t k σ H Q) := λ pins s σ H Q I ⟨k, q⟩ => h k pins s σ H Q I q
theorem Rc.of_item {r : Option Re} {x : DV} (h : Rc.of r = some (.item x)) : ∃ c, r = some (.ok x c) /\ stro x c = true := by
 unfold Rc.of at h
 split at h
 ·rename_i d c
  split at h
  ·rename_i m; cases h; exact ⟨c, rfl, m⟩
  ·cases h
 ·cases h
theorem Rc.of_skip {r : Option Re} (h : Rc.of r = some .skip) : False := by
 unfold Rc.of at h
 split at h
 ·split at h <;> cases h
 ·cases h
theorem q3D {fr : List (Option Nat)} {δ : List Sv} {i : Nat} (h : fr[i]? = some none) : (q0t fr δ)[i]? = some .no := by
 unfold q0t
 rw [List.getElem?_map, h]; rfl
noncomputable def q1e (X : Cx) (E : St -> XK) (δ : List Sv) (tgE iter : Expr) (ifs : List Expr) (elt : Expr) (scope : Scope) (N' : List Str) (fr : List (Option Nat)) (tg : Tg) (re : Re) : Prop :=
 ∃ wi tc te, PI X tgE iter wi /\ (∀ C cells s₂ H₂ fp, PTs (q0s X scope N' C cells s₂ H₂ fp) ifs tc) /\ (∀ C cells s₂ H₂ fp, PE (q0s X scope N' C cells s₂ H₂ fp) elt te) /\
  ∀ σ H Q, dE X.D E δ re σ H Q -> z1m fr wi (gT X.K tg) tc te σ H Q
theorem q4q {iter : Expr} {env : Env} (hset : q3f iter = false) : ∀ x, foldedSetIterable iter env x = pure x := by cases iter <;> first | (intro _; rfl) | cases hset
theorem q1e.pe (P : q1e X E δ tgE iter ifs elt scope N' fr tg re) (S : CompScope X.N N' scope X.env.scope fr) (hc : X.calm = true) (hG : ∀ C cells s₂ H₂ fp, PG (q0s X scope N' C cells s₂ H₂ fp) tgE (gT X.K tg)) (hset : q3f iter = false) :
  PE X (.ListComp elt [⟨tgE, iter, ifs, 0⟩] scope pos) (dE X.D E δ re) := by
 obtain ⟨wi, tc, te, h1, h2, h3, h4⟩ := P
 exact (z1E (pos := pos) S hc h1 hG h2 h3 (q4q hset)).weak h4
theorem RSt.noNames {D : Dm} {H : Hp} {σ : St} {δ : List Sv} {O W : List Addr} (R : RSt D H σ δ O W) (fr : List (Option Nat)) : RSt D H (L2.inner fr σ) (q0t fr []) O [] := by
 have no : ∀ (j : Nat) sv, (q0t fr [])[j]? = some sv -> sv = .no := λ j sv h => by
  unfold q0t at h
  rw [List.getElem?_map] at h
  cases q : fr[j]? with
  | none => rw [q] at h; cases h
  | some o =>
   rw [q] at h
   cases o with
   | none => cases h; rfl
   | some i => cases h; rfl
 refine ⟨λ j d h => (by cases no j _ h), λ j d h => (by cases no j _ h), λ j k a d d' h1 h2 e1 e2 => (by cases no j _ h1), λ j d h => (by cases no j _ h), λ j d h => (by cases no j _ h), λ j d h => (by cases no j _ h), ?_, ?_⟩
 ·unfold L2.inner q0t; rw [List.length_map, List.length_map]
 ·exact ⟨λ a ha => R.hid.ot a (by rw [List.append_nil] at ha; exact List.mem_append_left _ ha), Same.refl _, λ a ha => (nomatch ha), λ a ha => (nomatch ha)⟩
theorem q3R {evElt : List Sv -> Option Re} (S : CompScope X.N N' scope X.env.scope fr) (hc : X.calm = true) (hnd : ∀ (j k i : Nat), fr[j]? = some (some i) -> fr[k]? = some (some i) -> j = k) (hsl : ∀ i ∈ q2s tg, fr[i]? = some none) (hi : ∀ q, ri = some q -> PI X tgE iter (dI X.D E δ q))
  (hG : ∀ C cells s₂ H₂ fp, PG (q0s X scope N' C cells s₂ H₂ fp) tgE (gT X.K tg)) (he : ∀ δ' r, evElt δ' = some r -> ∀ C cells s₂ H₂ fp, PE (q0s X scope N' C cells s₂ H₂ fp) elt (dE X.D E0s δ' r))
  (h : (Ri.thn ri λ ds c => if c = .weak \/ mostLen < ds.length then (if c = .weak /\ ds.length <= mostLen then q2d (q0K (λ d => (tg.bind d (q0t fr [])).bind λ δ' => Rc.of (evElt δ')) ds) else none) else q1w (q0K (λ d => (tg.bind d (q0t fr δ)).bind λ δ' => Rc.of (evElt δ')) ds)) = some re) : q1e X E δ tgE iter [] elt scope N' fr tg re := by
 cases hri : ri with
 | none => rw [hri] at h; cases h
 | some q =>
  rw [hri] at h
  have A := hi q hri
  refine ⟨_, _, _, A, (λ C cells s₂ H₂ fp => z1C), (λ C cells s₂ H₂ fp => PE.any (ι := { p : List Sv × Re // evElt p.1 = some p.2 }) (t := λ k => dE X.D E0s k.1.1 k.1.2) λ k => he k.1.1 k.1.2 k.2 C cells s₂ H₂ fp), ?_⟩
  cases q with
  | ex c => cases h; exact λ σ H Q ⟨O, W, R, p⟩ => ⟨O, W, R, p⟩
  | ok ds c =>
   have h' : (if c = .weak \/ mostLen < ds.length then (if c = .weak /\ ds.length <= mostLen then q2d (q0K (λ d => (tg.bind d (q0t fr [])).bind λ δ' => Rc.of (evElt δ')) ds) else none) else q1w (q0K (λ d => (tg.bind d (q0t fr δ)).bind λ δ' => Rc.of (evElt δ')) ds)) = some re := h
   split at h'
   ·split at h'
    ·rename_i m
     obtain ⟨rfl, ml⟩ := m
     unfold q2d at h'
     split at h'
     ·cases h'
     ·rename_i xs hx
      cases h'
      refine λ σ H Q ⟨O, W, R, p⟩ => ⟨O, W, R, λ J H1 s1 w => ?_⟩
      have w' : Wk X.D J ds (hidW O [] .strong) (q0Q O [] .strong) H1 := by
       show Wk X.D J ds (O ++ []) (O ++ []) H1
       rw [List.append_nil]; exact w
      have hd0 : Hid O [] H H := (R.noNames fr).hid
      refine q4H (tg := tg) (D := X.D) (O := O) (W := []) w' hd0 (by intro z; cases z) ((R.mono s1).noNames fr) (λ i hi => .inl (q3D (hsl i hi))) (q1r (by omega)) hx s1 (λ d rc hm hg => ?_) (λ d x hm hg δ' hb σ' H2 s2 R2 K hK => ?_) (λ v H' s' g' => p v H' s' ?_)
      ·cases hb : tg.bind d (q0t fr []) with
       | none => rw [hb] at hg; cases hg
       | some δ' =>
        rw [hb] at hg
        refine ⟨δ', rfl, λ σ' H2 s2 R2 K k1 k2 => ?_⟩
        cases rc with
        | skip => exact (Rc.of_skip hg).elim
        | item x => exact k2 x rfl H2 (Same.refl _)
      ·rw [hb] at hg
       obtain ⟨cl, e1, e2⟩ := Rc.of_item hg
       exact ⟨⟨⟨δ', .ok x cl⟩, e1⟩, O, [], R2, λ v H3 s3 g3 => hK v H3 s3 (g3.stro (R2.hid.mono s3) e2)⟩
      ·show Rep X.D (L2.wo O H') _ v
       have := Got.strong g' (hd0.mono s')
       rw [List.append_nil] at this
       exact this
    ·cases h'
   ·rename_i m
    rw [not_or] at m
    unfold q1w at h'
    split at h'
    ·cases h'
    ·rename_i xs hx
     cases h'
     refine λ σ H Q ⟨O, W, R, p⟩ => ⟨O, W, R, λ J H1 s1 w => ?_⟩
     refine q4H (tg := tg) (D := X.D) w R.hid m.1 ((R.mono s1).inner fr hnd) (λ i hi => .inl (q3D (hsl i hi))) (q1r (by omega)) hx s1 (λ d rc hm hg => ?_) (λ d x hm hg δ' hb σ' H2 s2 R2 K hK => ?_) p
     ·cases hb : tg.bind d (q0t fr δ) with
      | none => rw [hb] at hg; cases hg
      | some δ' =>
       rw [hb] at hg
       refine ⟨δ', rfl, λ σ' H2 s2 R2 K k1 k2 => ?_⟩
       cases rc with
       | skip => exact (Rc.of_skip hg).elim
       | item x => exact k2 x rfl H2 (Same.refl _)
     ·rw [hb] at hg
      obtain ⟨cl, e1, e2⟩ := Rc.of_item hg
      exact ⟨⟨⟨δ', .ok x cl⟩, e1⟩, O, W, R2, λ v H3 s3 g3 => hK v H3 s3 (g3.stro (R2.hid.mono s3) e2)⟩
theorem q3v {evElt : List Sv -> Option Re} {evC : List Sv -> Option Rt} {cond : Expr} (S : CompScope X.N N' scope X.env.scope fr) (hc : X.calm = true) (hnd : ∀ (j k i : Nat), fr[j]? = some (some i) -> fr[k]? = some (some i) -> j = k) (hsl : ∀ i ∈ q2s tg, fr[i]? = some none) (hi : ∀ q, ri = some q -> PI X tgE iter (dI X.D E δ q))
  (hG : ∀ C cells s₂ H₂ fp, PG (q0s X scope N' C cells s₂ H₂ fp) tgE (gT X.K tg)) (he : ∀ δ' r, evElt δ' = some r -> ∀ C cells s₂ H₂ fp, PE (q0s X scope N' C cells s₂ H₂ fp) elt (dE X.D E0s δ' r))
  (ht : ∀ δ' r, evC δ' = some r -> ∀ C cells s₂ H₂ fp, PT (q0s X scope N' C cells s₂ H₂ fp) cond (dT X.D E0s δ' r))
  (h : (Ri.thn ri λ ds c => if c = .weak \/ mostLen < ds.length then none else q1w (q0K (λ d => (tg.bind d (q0t fr δ)).bind λ δ' => Rc.test (evC δ') (Rc.of (evElt δ'))) ds)) = some re) : q1e X E δ tgE iter [cond] elt scope N' fr tg re := by
 cases hri : ri with
 | none => rw [hri] at h; cases h
 | some q =>
  rw [hri] at h
  have A := hi q hri
  refine ⟨_, _, _, A, (λ C cells s₂ H₂ fp => PTs.any (ι := { p : List Sv × Rt // evC p.1 = some p.2 }) (t := λ k => dT X.D E0s k.1.1 k.1.2) λ k => z1G (ht k.1.1 k.1.2 k.2 C cells s₂ H₂ fp)),
   (λ C cells s₂ H₂ fp => PE.any (ι := { p : List Sv × Re // evElt p.1 = some p.2 }) (t := λ k => dE X.D E0s k.1.1 k.1.2) λ k => he k.1.1 k.1.2 k.2 C cells s₂ H₂ fp), ?_⟩
  cases q with
  | ex c => cases h; exact λ σ H Q ⟨O, W, R, p⟩ => ⟨O, W, R, p⟩
  | ok ds c =>
   have h' : (if c = .weak \/ mostLen < ds.length then none else q1w (q0K (λ d => (tg.bind d (q0t fr δ)).bind λ δ' => Rc.test (evC δ') (Rc.of (evElt δ'))) ds)) = some re := h
   split at h'
   ·cases h'
   ·rename_i m
    rw [not_or] at m
    unfold q1w at h'
    split at h'
    ·cases h'
    ·rename_i xs hx
     cases h'
     refine λ σ H Q ⟨O, W, R, p⟩ => ⟨O, W, R, λ J H1 s1 w => ?_⟩
     refine q4H (tg := tg) (D := X.D) w R.hid m.1 ((R.mono s1).inner fr hnd) (λ i hi => .inl (q3D (hsl i hi))) (q1r (by omega)) hx s1 (λ d rc hm hg => ?_) (λ d x hm hg δ' hb σ' H2 s2 R2 K hK => ?_) p
     ·cases hb : tg.bind d (q0t fr δ) with
      | none => rw [hb] at hg; cases hg
      | some δ' =>
       rw [hb] at hg
       have hg' : Rc.test (evC δ') (Rc.of (evElt δ')) = some rc := hg
       refine ⟨δ', rfl, λ σ' H2 s2 R2 K k1 k2 => ?_⟩
       unfold Rc.test at hg'
       split at hg'
       ·rename_i q
        refine ⟨⟨⟨δ', .ok true⟩, q⟩, O, W, R2, λ H3 s3 => ?_⟩
        cases rc with
        | skip => exact (Rc.of_skip hg').elim
        | item x => exact k2 x rfl H3 s3
       ·rename_i q
        cases hg'
        exact ⟨⟨⟨δ', .ok false⟩, q⟩, O, W, R2, λ H3 s3 => k1 rfl H3 s3⟩
       ·cases hg'
     ·rw [hb] at hg
      have hg' : Rc.test (evC δ') (Rc.of (evElt δ')) = some (.item x) := hg
      unfold Rc.test at hg'
      split at hg'
      ·obtain ⟨cl, e1, e2⟩ := Rc.of_item hg'
       exact ⟨⟨⟨δ', .ok x cl⟩, e1⟩, O, W, R2, λ v H3 s3 g3 => hK v H3 s3 (g3.stro (R2.hid.mono s3) e2)⟩
      ·cases hg'
      ·cases hg'
end
end L2
end
section
namespace L2
open PySem PySem.Spec PyProof.Rows
theorem Inv.turnedL {X : Cx} {pins : List (Addr × Obj)} {σ : St} {H : Hp} {s : Shared} {h' : Heap} {t' : Nat} {ch : List Addr} (I : Inv X pins σ H s) (k : ∀ b o, b ∉ ch -> s.heap.get? b = some o -> h'.get? b = some o) (hf : ∀ b ∈ ch, FpOk X pins H b) : Inv X pins σ H { s with heap := h', toks := t' } := by
 have nit : ∀ b u, H b = some u -> b ∉ ch := λ b u e z => by rw [(hf b z).1] at e; cases e
 refine I.step (g' := s.gens) (d' := s.drawn) (ch := ch) (λ b hb => ?_) (λ b o _ _ hc e _ => k b o hc e) (λ b o _ _ hc e _ => ⟨o.slots, k b o hc e⟩) (λ _ _ _ _ n => n)
  (λ b o hc e => ⟨o, k b o hc e⟩) (λ _ _ e => e) (λ _ _ _ e => e) (λ b ps e => ⟨#[], by rw [e]; simp⟩) (λ m hm => ?_) (λ b u e => ?_) I.bare
 ·obtain ⟨_, f1, _, f3, f4, f5⟩ := hf b hb
  exact ⟨f3, f1, f4, f5⟩
 ·obtain ⟨o, es, ep, ho, r⟩ := hm
  exact ⟨o, es, ep, k _ o (λ z => (hf _ z).2.1 rfl) ho, r⟩
 ·refine (I.hok b u e).stay (λ c v hc q => k c v ?_ q) (λ _ q => q) λ _ _ q => q
  rcases hc with z | z
  ·rw [z]; exact nit b u e
  ·exact nit c _ z
noncomputable def SqD (t : Bool) (K : PySem.W.Frag) (H : Hp) (a : Addr) (xs : List V) : Prop := match t with | false => SqL K H a xs | true => SqT K H a xs
theorem Same.sqd {t : Bool} {K : PySem.W.Frag} {H H' : Hp} {a : Addr} {xs : List V} (e : Same H H') (h : SqD t K H a xs) : SqD t K H' a xs := by
 cases t
 ·exact e.seq h
 ·exact e.tseq h
theorem Inv.sqd {X : Cx} {pins : List (Addr × Obj)} {σ : St} {H : Hp} {s : Shared} {t : Bool} {a : Addr} {xs : List V} (I : Inv X pins σ H s) (h : SqD t X.K H a xs) : ∃ its : List Value, Vals xs its /\ SqK t s.heap a its.toArray := by
 cases t
 ·obtain ⟨its, rv, p, _⟩ := I.list h
  exact ⟨its, rv, p.isList⟩
 ·obtain ⟨its, rv, p, _⟩ := I.tuple h
  exact ⟨its, rv, p⟩
theorem Inv.sqd_inj {X : Cx} {pins : List (Addr × Obj)} {σ : St} {H : Hp} {s : Shared} {t : Bool} {a : Addr} {xs ys : List V} (I : Inv X pins σ H s) (h : SqD t X.K H a xs) (h' : SqD t X.K H a ys) : xs = ys := by
 cases t
 ·exact I.list_inj h h'
 ·exact I.tuple_inj h h'
noncomputable def itK (t : Bool) (h : Heap) (ia la : Addr) (k : Nat) : Prop := match t with | false => h.IsListIter ia la k | true => h.IsTupleIter ia la k
theorem q7a {t : Bool} {ia la : Addr} {vs : Array Value} {k : Nat} {h : Heap} (p : itK t h ia la k) (q : SqK t h la vs) : sK t ia la vs k h := by
 cases t <;> exact ⟨p, q⟩
theorem q6K {t : Bool} {ia la : Addr} {vs : Array Value} {k : Nat} {h : Heap} (p : sK t ia la vs k h) : itK t h ia la k := by
 cases t <;> exact p.1
theorem q3U {t : Bool} {ia la : Addr} {k : Nat} {h h' : Heap} (p : itK t h ia la k) (e : ∀ o, h.get? ia = some o -> h'.get? ia = some o) : itK t h' ia la k := by
 cases t
 ·exact Heap.IsListIter.at p e
 ·obtain ⟨o, z, r⟩ := p; exact ⟨o, e o z, r⟩
theorem q1D {t : Bool} {ia la : Addr} {k : Nat} {h : Heap} (p : itK t h ia la k) : ∃ o xs, h.get? ia = some o /\ o.data = .fields xs := by
 cases t
 ·obtain ⟨o, e, _, d⟩ := p; exact ⟨o, _, e, d⟩
 ·obtain ⟨o, e, _, d⟩ := p; exact ⟨o, _, e, d⟩
theorem SqK.lt {t : Bool} {h : Heap} {a : Addr} {vs : Array Value} (p : SqK t h a vs) : a < h.objs.size := by
 cases t
 ·obtain ⟨o, e, _⟩ := p; exact Heap.lt_size e
 ·obtain ⟨o, e, _⟩ := p; exact Heap.lt_size e
noncomputable def Itz (K : PySem.W.Frag) (t1 t2 : Bool) (a b : Addr) : It :=
  ⟨λ i H => ∃ xs ys x y, SqD t1 K H a xs /\ SqD t2 K H b ys /\ xs[i]? = some x /\ ys[i]? = some y,
   λ i H x H' => ∃ p v u, x = .ref p /\ H p = none /\ (∀ xs, SqD t1 K H a xs -> xs[i]? = some v) /\ (∀ ys, SqD t2 K H b ys -> ys[i]? = some u) /\ H' = upd H p (.tup [v, u]),
   λ i H => ∃ xs ys, SqD t1 K H a xs /\ SqD t2 K H b ys /\ (xs.length <= i \/ ys.length <= i)⟩
theorem q9K {P : Program} {w : World} {K : PySem.W.Frag} {elts : List Expr} {k : Nat} {pos : Pos} {z TI TO i1 i2 l1 l2 : Addr} (t1 t2 : Bool) (D : ZipApart z TI TO i1 i2 l1 l2) :
  Turn P w K (.Tuple elts k pos) (Itz K t1 t2 l1 l2) [z, TI, TO, i1, i2] z (λ i h => IsZip h z TI TO .none /\ IsPair h TI (.ref i1) (.ref i2) /\ (∃ a b, IsPair h TO a b) /\ itK t1 h i1 l1 i /\ itK t2 h i2 l2 i) where
 mem := by simp
 obj := λ i h st b hb => by
  obtain ⟨hz, hTI, ⟨a, a', hTO⟩, h1, h2⟩ := st
  simp only [List.mem_cons, List.not_mem_nil, or_false] at hb
  rcases hb with rfl | rfl | rfl | rfl | rfl
  ·exact ⟨_, hz, λ v q => by cases q⟩
  ·exact ⟨_, hTI, λ v q => by cases q⟩
  ·exact ⟨_, hTO, λ v q => by cases q⟩
  ·obtain ⟨o, xs, e, d⟩ := q1D h1; exact ⟨o, e, λ v q => by rw [d] at q; cases q⟩
  ·obtain ⟨o, xs, e, d⟩ := q1D h2; exact ⟨o, e, λ v q => by rw [d] at q; cases q⟩
 keep := λ i h h' st q => by
  obtain ⟨hz, hTI, ⟨a, a', hTO⟩, h1, h2⟩ := st
  exact ⟨q z (by simp) _ hz, q TI (by simp) _ hTI, ⟨a, a', q TO (by simp) _ hTO⟩, q3U h1 λ o e => q i1 (by simp) o e, q3U h2 λ o e => q i2 (by simp) o e⟩
 item := by
  intro X hP hw hK hc i pins s σ H E I hf st hg
  subst hP hw hK
  obtain ⟨hz, hTI, ⟨a, a', hTO⟩, h1, h2⟩ := st
  obtain ⟨xs, ys, x, y, q1, q2, hx, hy⟩ := hg
  obtain ⟨its, rv, p⟩ := I.sqd q1
  obtain ⟨its2, rv2, p2⟩ := I.sqd q2
  obtain ⟨u, hu, ru⟩ := rv.get hx
  obtain ⟨u2, hu2, ru2⟩ := rv2.get hy
  refine q8B D (q7j t1 D.l1i1) (q7j t2 D.l2i2) hz hTI hTO (q7a h1 p) (q7a h2 p2) (x := u) (y := u2) (by simpa using hu) (by simpa using hu2) λ h' a1 a2 a3 a4 a5 a6 a7 => ⟨_, rfl, ?_⟩
  refine wpAny_letOwnedTupleGo_zip a1 λ h2' hz' hs' => ?_
  have hsz : s.heap.objs.size ≠ z := Nat.ne_of_gt (Heap.lt_size hz)
  have keep : ∀ b o, b ∉ [z, TI, TO, i1, i2] -> s.heap.get? b = some o -> h2'.get? b = some o := λ b o hb e =>
   hs'.extBut _ _ (λ q => hb (by simp [q])) (a7 b o (λ q => hb (by simp [q])) (λ q => hb (by simp [q])) (λ q => hb (by simp [q])) (λ q => hb (by simp [q])) e)
  have I1 : Inv X pins σ H { s with heap := h2' } := I.turnedL (t' := s.toks) keep hf
  have hn : H s.heap.objs.size = none := I.hok.fresh (Nat.le_refl _)
  have f5 := I.fpOk (Nat.le_refl _) hn
  have new : h2'.get? s.heap.objs.size = some { cls := .type "tuple", data := .seq #[u, u2] } := hs'.extBut _ _ hsz a5
  have h0 : X.s₀.heap.get? s.heap.objs.size = none := Heap.get?_none_of_le I.sz
  have I2 : Inv X pins σ (upd H s.heap.objs.size (.tup [x, y])) { s with heap := h2' } := I1.track hn h0 f5.2.1 (λ n c e => f5.2.2.2.2.1 n c e) (λ q hq => f5.2.2.2.2.2 q hq)
   ⟨by show (2 : Nat) <= sizeLine; decide, [u, u2], .cons ru (.cons ru2 .nil), _, new, ⟨rfl, rfl⟩, _, rfl⟩
  refine ⟨.ref s.heap.objs.size, _, I2, rfl, ⟨_, x, y, rfl, hn, λ xs' e => by rw [I.sqd_inj e q1]; exact hx, λ ys' e => by rw [I.sqd_inj e q2]; exact hy, rfl⟩,
   ⟨hz', hs'.extBut _ _ D.TIz (a7 _ _ D.TIz D.TITO D.TIi1 D.TIi2 hTI), ⟨_, _, hs'.extBut _ _ D.TOz a2⟩, q3U (q6K a3) (λ o e => hs'.extBut _ _ D.i1z e), q3U (q6K a4) (λ o e => hs'.extBut _ _ D.i2z e)⟩, λ b hb => ?_⟩
  have lt : ∀ b ∈ [z, TI, TO, i1, i2], b ≠ s.heap.objs.size := λ b hb => by
   simp only [List.mem_cons, List.not_mem_nil, or_false] at hb
   rcases hb with rfl | rfl | rfl | rfl | rfl
   ·exact Ne.symm hsz
   ·exact Nat.ne_of_lt (Heap.lt_size hTI)
   ·exact Nat.ne_of_lt (Heap.lt_size hTO)
   ·obtain ⟨o, _, e, _⟩ := q1D h1; exact Nat.ne_of_lt (Heap.lt_size e)
   ·obtain ⟨o, _, e, _⟩ := q1D h2; exact Nat.ne_of_lt (Heap.lt_size e)
  rw [q0j (lt b hb)]
  exact (hf b hb).1
 done := by
  intro X hP hw hK hc i pins s σ H E I hf st hg
  subst hP hw hK
  obtain ⟨hz, hTI, ⟨a, a', hTO⟩, h1, h2⟩ := st
  obtain ⟨xs, ys, q1, q2, hx⟩ := hg
  obtain ⟨its, rv, p⟩ := I.sqd q1
  obtain ⟨its2, rv2, p2⟩ := I.sqd q2
  have e1 := rv.length
  have e2 := rv2.length
  refine q8W (I.ok.hd hc) D (q7j t1 D.l1i1) (q7j t2 D.l2i2) hz hTI hTO (q7a h1 p) (q7a h2 p2) (by
   rcases hx with q | q
   ·left; simp; omega
   ·right; simp; omega) λ h' a7 => ⟨rfl, I.turnedL (t' := s.toks) (ch := [z, TI, TO, i1, i2]) (λ b o hb e => a7 b o (λ q => hb (by simp [q])) (λ q => hb (by simp [q])) (λ q => hb (by simp [q])) (λ q => hb (by simp [q])) e) hf⟩
 self := λ _ _ _ _ _ st h => wpAny_pyIter_zip st.1 h
theorem q2Y : ∀ (xs ys : List DV), (zpD xs ys).length = min xs.length ys.length
 | [], ys => by simp [zpD]
 | _ :: _, [] => by simp [zpD]
 | x :: xs, y :: ys => by rw [zpD, List.length_cons, q2Y xs ys, List.length_cons, List.length_cons]; omega
theorem q7M : ∀ {xs ys : List DV} {i : Nat} {d : DV}, (zpD xs ys)[i]? = some d -> ∃ x y, xs[i]? = some x /\ ys[i]? = some y /\ d = .tup [x, y]
 | [], _, _, _, h => by simp [zpD] at h
 | _ :: _, [], _, _, h => by simp [zpD] at h
 | x :: xs, y :: ys, 0, d, h => by simp [zpD] at h; exact ⟨x, y, rfl, rfl, h.symm⟩
 | x :: xs, y :: ys, i + 1, d, h => by
  rw [zpD, List.getElem?_cons_succ] at h
  simpa using q7M h
theorem q3T {O W : List Addr} {c c' : Cl} : ∀ b ∈ hidW O W (Cl.meet c c'), b ∈ hidW O W c := by
 cases c <;> cases c' <;> intro b hb <;> first | exact hb | exact List.mem_append_left _ hb
theorem q6Y {O W : List Addr} {c c' : Cl} : ∀ b ∈ hidW O W (Cl.meet c c'), b ∈ hidW O W c' := by
 cases c <;> cases c' <;> intro b hb <;> first | exact hb | exact List.mem_append_left _ hb
theorem q2G {O W : List Addr} {c c' : Cl} : ∀ b ∈ q0Q O W (Cl.meet c c'), b ∈ q0Q O W c := by
 cases c <;> cases c' <;> intro b hb <;> first | exact hb | exact List.mem_append_left _ hb
theorem q4D {O W : List Addr} {c c' : Cl} : ∀ b ∈ q0Q O W (Cl.meet c c'), b ∈ q0Q O W c' := by
 cases c <;> cases c' <;> intro b hb <;> first | exact hb | exact List.mem_append_left _ hb
theorem Wk.zip {D : Dm} {ds es : List DV} {Oc Oi : List Addr} {H1 : Hp} {a b : Addr} {xs ys : List V} {t1 t2 : Bool} (h : SqD t1 D.K (L2.wo Oc H1) a xs) (r : RepL D (L2.wo Oi H1) ds xs) (h' : SqD t2 D.K (L2.wo Oc H1) b ys) (r' : RepL D (L2.wo Oi H1) es ys) : Wk D (Itz D.K t1 t2 a b) (zpD ds es) Oc Oi H1 where
 go := λ i H s hi => by
  rw [q2Y] at hi
  exact ⟨xs, ys, xs[i]'(by rw [r.length]; omega), ys[i]'(by rw [r'.length]; omega), q0F.sqd (s.sqd h), q0F.sqd (s.sqd h'), List.getElem?_eq_getElem _, List.getElem?_eq_getElem _⟩
 same := λ i H x H' y => by
  obtain ⟨p, v, u, _, hp, _, _, e⟩ := y
  rw [e]; exact q0h hp
 yld := λ i H x H' d O2 s s' y e ho => by
  obtain ⟨p, v, u, ex, hp, y1, y2, eH⟩ := y
  obtain ⟨d1, d2, q1, q2, rfl⟩ := q7M e
  obtain ⟨v1, z1, z2⟩ := r.get q1
  obtain ⟨v2, z3, z4⟩ := r'.get q2
  have w1 := y1 xs (q0F.sqd (s.sqd h))
  have w2 := y2 ys (q0F.sqd (s.sqd h'))
  rw [z1] at w1; cases w1
  rw [z3] at w2; cases w2
  have hpo : p ∉ O2 := λ z => (ho p z).1 hp
  subst eH
  refine q0z.mpr ⟨p, _, ex, SqT.of (by rw [q0n hpo]; exact q0m), ?_⟩
  have up : Same (L2.wo Oi H1) (L2.wo O2 (upd H p (.tup [v, u]))) := (q6G s' ho).trans (q0h hp).wo
  exact q0e.mpr ⟨_, _, rfl, z2.mono up, RepL.one (z4.mono up)⟩
 stop := λ H s => by
  refine ⟨xs, ys, q0F.sqd (s.sqd h), q0F.sqd (s.sqd h'), ?_⟩
  rw [q2Y, r.length, r'.length]
  omega
section
variable {X : Cx} {E : St -> XK} {δ : List Sv} {e e' : Expr} {elts : List Expr} {k : Nat} {tpos pos p : Pos} {ra rb : Option Re} {ri : Ri}
theorem q5M {n a b : Nat} (ha : a < n) (hb : b < n) : ZipApart (n + 4) (n + 2) (n + 3) n (n + 1) a b := by
 constructor <;> (show @Ne Nat _ _) <;> omega
theorem z3M {ta : TA} (hg : Gl X "zip") (hm : X.mg "zip" = none) (ha : PA X [e, e'] ta) (hs : q0k e = false) (hs' : q0k e' = false) :
  PI X (.Tuple elts k tpos) (.Call (.Name "zip" p) [e, e'] [] pos) (λ σ H R => ta σ H λ vs H1 => ∃ t1 t2 a b, vs = [.ref a, .ref b] /\ (∃ xs, SqD t1 X.K H1 a xs) /\ (∃ ys, SqD t2 X.K H1 b ys) /\ R (Itz X.K t1 t2 a b) H1) := by
 intro pins s σ H R I h
 refine Call_ (q2q I hg hm boot_zip (PyProof.Rows.callWith_type1 (thn (ha pos pins s σ H _ I h) λ us s1 ⟨vs, H1, I1, r1, q1⟩ => ?_) (by rw [q0i hs]) (q1z [e'] (by simp [hs']))))
 obtain ⟨t1, t2, a, b, e1, ⟨xs, hx⟩, ⟨ys, hy⟩, q⟩ := q1
 subst e1
 obtain ⟨u, u', rfl, ru, ru'⟩ := r1.two
 cases ru
 cases ru'
 obtain ⟨its, rv, p1⟩ := I1.sqd hx
 obtain ⟨its2, rv2, p2⟩ := I1.sqd hy
 have la := p1.lt
 have lb := p2.lt
 refine q8e t1 t2 p1 p2 λ h' z1 z2 z3 z4 z5 z6 z7 => ?_
 have I2 : Inv X pins σ H1 { s1 with heap := h' } := I1.kept (t' := s1.toks) z7
 refine wpAny_pyIter_zip z1 ⟨s1.heap.objs.size + 4, [s1.heap.objs.size + 4, s1.heap.objs.size + 2, s1.heap.objs.size + 3, s1.heap.objs.size, s1.heap.objs.size + 1], _, _, H1, rfl, I2,
  q9K (l1 := a) (l2 := b) t1 t2 (q5M la lb), ⟨z1, z2, ⟨_, _, z3⟩, q6K z4, q6K z5⟩, λ c hc => ?_, q⟩
 have hc' : s1.heap.objs.size <= c := by
  simp only [List.mem_cons, List.not_mem_nil, or_false] at hc
  rcases hc with rfl | rfl | rfl | rfl | rfl
  ·exact Nat.le_add_right ..
  ·exact Nat.le_add_right ..
  ·exact Nat.le_add_right ..
  ·exact Nat.le_refl _
  ·exact Nat.le_add_right ..
 exact I1.fpOk hc' (I1.hok.fresh hc')
theorem q3r {D : Dm} {O W : List Addr} {H0 H : Hp} {d : DV} {t : Bool} {ds : List DV} {c : Cl} {v : V} (k : q9j d = some (t, ds)) (g : Got D O W H0 H d c v) (hd : Hid O W H0 H) : ∃ a xs, v = .ref a /\ SqD t D.K (L2.wo (hidW O W c) H) a xs /\ RepL D (L2.wo (q0Q O W c) H) ds xs := by
 cases d <;> cases k
 ·exact g.walkT hd
 ·exact g.walkL hd
theorem z3e (hg : Gl X "zip") (hm : X.mg "zip" = none) (hs : q0k e = false) (hs' : q0k e' = false) (ha : ∀ q, ra = some q -> PE X e (dE X.D E δ q)) (hb : ∀ q, rb = some q -> PE X e' (dE X.D E δ q))
  (h : q0N (Re.thn ra λ x c => Re.thn rb λ y c' => zipD x y c c') = some ri) : PI X (.Tuple elts k tpos) (.Call (.Name "zip" p) [e, e'] [] pos) (dI X.D E δ ri) := by
 have C := λ ta tb (hA : PE X e ta) (hB : PE X e' tb) => z3M (elts := elts) (k := k) (tpos := tpos) (p := p) (pos := pos) hg hm (q0V hA (q0V hB q3b (q0i hs')) (q0i hs)) hs hs'
 cases hra : ra with
 | none => rw [hra] at h; cases h
 | some q =>
  rw [hra] at h
  have A := ha q hra
  cases q with
  | ex c => cases h; exact (C _ _ A q1u).weak λ σ H R' ⟨O, W, R, p⟩ => ⟨O, W, R, p⟩
  | ok dx cx =>
   cases hrb : rb with
   | none => rw [hrb] at h; cases h
   | some q =>
    rw [hrb] at h
    have B := hb q hrb
    cases q with
    | ex c => cases h; exact (C _ _ A B).weak λ σ H R' ⟨O, W, R, p⟩ => ⟨O, W, R, λ x H1 s1 g1 => ⟨O, W, R.mono s1, λ H' C m s => p H' C m (s1.trans s)⟩⟩
    | ok dy cy =>
     have h' : q0N (zipD dx dy cx cy) = some ri := h
     unfold zipD at h'
     split at h'
     ·rename_i t1 ds1 t2 ds2 k1 k2
      cases h'
      exact (C _ _ A B).weak λ σ H R' ⟨O, W, R, p⟩ => ⟨O, W, R, λ x H1 s1 g1 => ⟨O, W, R.mono s1, λ y H2 s2 g2 => by
       have hd := (R.hid.mono s1).mono s2
       obtain ⟨a, xs, e1, e2, e3⟩ := q3r k1 (g1.mono s2) hd
       obtain ⟨b, ys, e1', e2', e3'⟩ := q3r k2 (g2.since s1) hd
       refine ⟨t1, t2, a, b, by rw [e1, e1'], ⟨xs, q0F.sqd e2⟩, ⟨ys, q0F.sqd e2'⟩, p _ H2 (s1.trans s2) (.zip ((q0x q3T).sqd e2) (e3.mono (q0x q2G)) ((q0x q6Y).sqd e2') (e3'.mono (q0x q4D)))⟩⟩⟩
     ·cases h'
end
end L2
end
section
namespace L2
open PySem PySem.Spec PyProof.Rows
section
variable {P : Program} {w : World} {A : Around} {E : Value -> Shared -> Prop} {s : Shared} {n c l : Addr} {k : Nat} {vs : Array Value} {S : Nat -> Heap -> Prop} {x old : Value}
noncomputable abbrev z3O (s : Shared) (h' : Heap) (n c : Addr) (k : Nat) (x : Value) (S : Nat -> Heap -> Prop) : Prop :=
 IsEnumOut h' n c ((k : Int) + 1) x s.heap.objs.size /\ S (k + 1) h' /\ h'.get? s.heap.objs.size = some { cls := .type "tuple", data := .seq #[.int k s.toks, x] } /\ h'.objs.size = s.heap.objs.size + 1 /\ (∀ b o, b ≠ n -> b ≠ c -> s.heap.get? b = some o -> h'.get? b = some o)
theorem q7U {Q : Value -> Shared -> Prop} (R : Src P w c l vs S) (hn : IsEnum s.heap n c k old) (hS : S k s.heap) (hx : vs[k]? = some x) (d1 : n ≠ c) (d2 : l ≠ n) (hQ : ∀ h', z3O s h' n c k x S -> Q (.ref s.heap.objs.size) { s with heap := h', toks := s.toks + 1 }) :
  wpAny (model P w) A (Builtin.«enumerate.__next__» ⟨[.ref n], []⟩) (λ fin s' => ∃ v, fin = .done (.ret v) /\ Q v s') E s := by
 obtain ⟨g0, gg, gd, gt, go⟩ := s
 show wpAny _ _ (field (.ref n) 2 >>= _) _ _ _
 refine wpAny_bind (wpAny_field hn rfl (x := .ref c) rfl (wpAny_bind (R.step k x hS hx λ g1 r1 t1 => ?_)))
 replace t1 : Heap.SameBut c g0 g1 := t1
 have n1 : IsEnum g1 n c k old := (t1.2 n d1).trans hn
 show wpAny _ _ (field (.ref n) 3 >>= _) _ _ ⟨g1, gg, gd, gt, go⟩
 refine wpAny_bind (wpAny_field n1 rfl (x := rawInt k) rfl ?_); show wpAny _ _ (field (.ref n) 4 >>= _) _ _ ⟨g1, gg, gd, gt, go⟩
 refine wpAny_bind (wpAny_field n1 rfl (x := .none) rfl ?_); show wpAny _ _ (mkInt k >>= _) _ _ ⟨g1, gg, gd, gt, go⟩
 refine wpAny_bind (wpAny_mkInt ?_); show wpAny _ _ (setField (.ref n) 3 (rawInt ((k : Int) + 1)) >>= _) _ _ ⟨g1, gg, gd, gt + 1, go⟩
 refine wpAny_bind (wpAny_setField_rec n1 (by simp) λ g2 n2 t2 => ?_)
 replace t2 : Heap.SameBut n g1 g2 := t2
 replace n2 : IsEnum g2 n c ((k : Int) + 1) old := n2
 show wpAny _ _ (setField (.ref n) 4 .none >>= _) _ _ ⟨g2, gg, gd, gt + 1, go⟩
 refine wpAny_bind (wpAny_setField_rec n2 (by simp) λ g3 n3 t3 => ?_)
 replace t3 : Heap.SameBut n g2 g3 := t3
 replace n3 : IsEnum g3 n c ((k : Int) + 1) old := n3
 show wpAny _ _ (newTuple [.int k gt, x] >>= _) _ _ ⟨g3, gg, gd, gt + 1, go⟩
 refine wpAny_bind (wpAny_newTuple ?_)
 have n4 : IsEnum (g3.push { cls := .type "tuple", data := .seq #[.int k gt, x] }) n c ((k : Int) + 1) old := Heap.get?_push_of_some _ n3
 have z3 : g3.objs.size = g0.objs.size := by rw [t3.1, t2.1, t1.1]
 have q4 : (g3.push { cls := .type "tuple", data := .seq #[.int k gt, x] }).get? g0.objs.size = some { cls := .type "tuple", data := .seq #[.int k gt, x] } := by rw [← z3]; exact Heap.get?_push_size _ rfl
 have z4 : (g3.push { cls := .type "tuple", data := .seq #[.int k gt, x] }).objs.size = g0.objs.size + 1 := by rw [Heap.size_push, z3]
 have k4 : ∀ b o, b ≠ n -> b ≠ c -> g0.get? b = some o -> (g3.push { cls := .type "tuple", data := .seq #[.int k gt, x] }).get? b = some o := λ b o b1 b2 e =>
  Heap.get?_push_of_some _ (t3.extBut b o b1 (t2.extBut b o b1 (t1.extBut b o b2 e)))
 have r4 : S (k + 1) (g3.push { cls := .type "tuple", data := .seq #[.int k gt, x] }) :=
  R.keep _ _ _ (R.ext (R.ext r1 t2.extBut (Ne.symm d1) d2) t3.extBut (Ne.symm d1) d2) (λ o e => Heap.get?_push_of_some _ e) (λ o e => Heap.get?_push_of_some _ e)
 generalize (g3.push { cls := .type "tuple", data := .seq #[.int k gt, x] }) = g4 at n4 q4 z4 k4 r4 ⊢
 have lt : n < g0.objs.size := Heap.lt_size hn
 show wpAny _ _ (Builtin.SmallTypes.ownedTupleIsFree (.ref n) >>= _) _ _ ⟨g4, gg, gd, gt + 1, go⟩
 rw [z3]
 refine wpAny_bind ?_; unfold Builtin.SmallTypes.ownedTupleIsFree
 refine wpAny_bind (wpAny_field n4 rfl (x := .none) rfl (wpAny_pure ?_)); simp only [if_true]
 refine wpAny_bind (wpAny_rule (wpAny_bind (wpAny_field n4 rfl (x := old) rfl (wpAny_bind (wpAny_setField_rec n4 (by simp) λ g5 n5 t5 => ?_)))))
 replace t5 : Heap.SameBut n g4 g5 := t5
 replace n5 : IsEnum g5 n c ((k : Int) + 1) x := n5
 show wpAny _ _ (Builtin.SmallTypes.ownedTupleHandOut (.ref n) (.ref g0.objs.size) >>= _) _ _ ⟨g5, gg, gd, gt + 1, go⟩
 refine wpAny_bind ?_; unfold Builtin.SmallTypes.ownedTupleHandOut
 refine wpAny_bind (wpAny_setField_rec n5 (by simp) λ g6 n6 t6 => ?_)
 replace t6 : Heap.SameBut n g5 g6 := t6
 replace n6 : IsEnumOut g6 n c ((k : Int) + 1) x g0.objs.size := n6
 refine wpAny_setField_rec n6 (by simp) λ g7 n7 t7 => ?_
 replace t7 : Heap.SameBut n g6 g7 := t7
 replace n7 : IsEnumOut g7 n c ((k : Int) + 1) x g0.objs.size := n7
 have up : ∀ b o, b ≠ n -> g4.get? b = some o -> g7.get? b = some o := λ b o b1 e => t7.extBut b o b1 (t6.extBut b o b1 (t5.extBut b o b1 e))
 exact wpAny_bind (wpAny_letGo (wpAny_pure ⟨_, rfl, hQ g7 ⟨n7, R.keep _ _ _ r4 (λ o e => up _ o (Ne.symm d1) e) (λ o e => up _ o d2 e), up _ _ (Nat.ne_of_gt lt) q4, by rw [t7.1, t6.1, t5.1, z4], λ b o b1 b2 e => up b o b1 (k4 b o b1 b2 e)⟩⟩))
theorem q8f {Q : Option Value -> Shared -> Prop} (R : Src P w c l vs S) (hn : IsEnum s.heap n c k old) (hS : S k s.heap) (hx : vs[k]? = some x) (d1 : n ≠ c) (d2 : l ≠ n) (hQ : ∀ h', z3O s h' n c k x S -> Q (some (.ref s.heap.objs.size)) { s with heap := h', toks := s.toks + 1 }) :
  wpAny (model P w) A (pyNext (.ref n)) Q E s := by
 have T : s.TypeIs (.ref n) "enumerate" := ⟨_, hn, rfl⟩
 unfold pyNext
 exact wpAny_bind (wpAny_attempt (wpAny_callSpecial?_slot (name := Str.ofString "__next__") T F.slot_enumerate_next (wpAny_call_entry F.slot_enumerate_next T F.entry_enumerate_next (q7U R hn hS hx d1 d2 λ h' a => wpAny_pure (hQ h' a)) (F.args_enumerate_next_1 _))))
theorem q8b {Q : Option Value -> Shared -> Prop} (hh : A.handled = none) (R : Src P w c l vs S) (hn : IsEnum s.heap n c k old) (hS : S k s.heap) (hx : vs[k]? = none) (hQ : ∀ h', Heap.ExtBut c s.heap h' -> Q none { s with heap := h' }) :
  wpAny (model P w) A (pyNext (.ref n)) Q E s := by
 have T : s.TypeIs (.ref n) "enumerate" := ⟨_, hn, rfl⟩
 unfold pyNext
 refine wpAny_bind (wpAny_attempt (wpAny_callSpecial?_slot (name := Str.ofString "__next__") T F.slot_enumerate_next (wpAny_call_entry F.slot_enumerate_next T F.entry_enumerate_next ?_ (F.args_enumerate_next_1 _))))
 show wpAny _ _ (field (.ref n) 2 >>= _) _ _ _
 refine wpAny_bind (wpAny_field hn rfl (x := .ref c) rfl (wpAny_bind (R.stop k hh hS hx λ g1 e t1 he => ?_)))
 obtain ⟨o, q1, q2⟩ := he
 exact wpAny_bind (wpAny_isInstance (T := "StopIteration") (b := true) ⟨o, q1, q2⟩ isSubtype_stop (wpAny_pure (hQ _ t1)))
end
open AutoSeq1 (wpAny_loadPart') in
theorem q6I (l : Addr) (vs : Array Value) (m : Nat) (dc : Option Addr) (sl : Array (Option Value)) : Meets (Builtin.«enumerate.__new__» ⟨[.type "enumerate", .ref l], []⟩) (λ _ R s => s.heap.get? l = some { cls := .type "tuple", dict := dc, data := .seq vs m, slots := sl } /\
  R (.ok (.ret (.ref (zH1 s.heap true l).objs.size))) { s with heap := (zH1 s.heap true l).push { cls := .type "enumerate", data := .fields #[.none, .bool false, .ref s.heap.objs.size, rawInt 0, .none, .none] } }) :=
 .of_wp λ P w A R s h => by
  obtain ⟨g0, gg, gd, gt, go⟩ := s
  obtain ⟨q, h⟩ := h
  have hsub := sub_enumerate
  have qT : Heap.IsTuple (Shared.heap ⟨g0, gg, gd, gt, go⟩) l vs := ⟨_, q, rfl, m, rfl⟩
  wp_walk using wpAny_loadPart' q
  refine wpAny_stack_any λ st => wpAny_pure ?_; split
  ·rename_i y _ _ _ _ _; cases (y == Value.type "enumerate")
   ·wp_walk using wpAny_loadPart' q, wpAny_pyIter_tuple qT
    exact ⟨_, rfl, h⟩
   ·wp_walk using wpAny_loadPart' q, wpAny_pyIter_tuple qT
    exact ⟨_, rfl, h⟩
  ·wp_walk using wpAny_loadPart' q, wpAny_pyIter_tuple qT
   exact ⟨_, rfl, h⟩
theorem q7n {P : Program} {w : World} {A : Around} {E : Value -> Shared -> Prop} {s : Shared} {l : Addr} {vs : Array Value} {Q : Value -> Shared -> Prop} (t : Bool) (q : SqK t s.heap l vs)
    (h : ∀ h', IsEnum h' (s.heap.objs.size + 1) s.heap.objs.size 0 .none -> sK t s.heap.objs.size l vs 0 h' -> h'.objs.size = s.heap.objs.size + 2 -> (∀ b o, s.heap.get? b = some o -> h'.get? b = some o) -> Q (.ref (s.heap.objs.size + 1)) { s with heap := h' }) :
    wpAny (model P w) A (call (.type "enumerate") [.ref l]) Q E s := by
  cases t with
  | false => exact call_enumerate_list (show s.heap.IsList l vs from q) λ h' a1 a2 a3 a4 => h h' a1 ⟨a2, Heap.IsList.at (show s.heap.IsList l vs from q) λ o e => a4 _ o e⟩ a3 a4
  | true =>
    obtain ⟨⟨y, dc, dt, sl⟩, q1, q2, m, q3⟩ := id (show s.heap.IsTuple l vs from q)
    replace q2 : y = .type "tuple" := q2
    replace q3 : dt = .seq vs m := q3
    subst q2 q3
    refine callType_new F.called_enumerate (by decide) (F.typeCall_enumerate_1 _) (F.newCall_enumerate_1 _) (λ obj => F.args_object_init_2 obj _) F.entry_enumerate_new (q6I l vs m dc sl) ⟨q1, ?_⟩
    have n1 : (zH1 s.heap true l).objs.size = s.heap.objs.size + 1 := Heap.size_push ..
    have e2 := Heap.get?_push_size (zH1 s.heap true l) (o := { cls := .type "enumerate", data := .fields #[.none, .bool false, .ref s.heap.objs.size, rawInt 0, .none, .none] }) rfl
    have e1 : ((zH1 s.heap true l).push { cls := .type "enumerate", data := .fields #[.none, .bool false, .ref s.heap.objs.size, rawInt 0, .none, .none] }).get? s.heap.objs.size = some (itO true l) := Heap.get?_push_of_some _ (Heap.get?_push_size _ rfl)
    have kp : ∀ b o, s.heap.get? b = some o -> ((zH1 s.heap true l).push { cls := .type "enumerate", data := .fields #[.none, .bool false, .ref s.heap.objs.size, rawInt 0, .none, .none] }).get? b = some o := λ b o e => Heap.get?_push_of_some _ (Heap.get?_push_of_some _ e)
    rw [n1] at e2
    show _ /\ _
    rw [n1]
    exact ⟨⟨_, e2, rfl⟩, h _ e2 (q7z e1 q kp) (by rw [Heap.size_push, n1]) kp⟩
end L2
end
section
namespace L2
open PySem PySem.Spec PyProof.Rows
noncomputable def Ite (K : PySem.W.Frag) (t : Bool) (a : Addr) : It :=
  ⟨λ i H => ∃ xs x, SqD t K H a xs /\ xs[i]? = some x,
   λ i H x H' => ∃ p v, x = .ref p /\ H p = none /\ (∀ xs, SqD t K H a xs -> xs[i]? = some v) /\ H' = upd H p (.tup [.int i, v]),
   λ i H => ∃ xs, SqD t K H a xs /\ xs.length <= i⟩
theorem q9h {P : Program} {w : World} {K : PySem.W.Frag} {elts : List Expr} {k : Nat} {pos : Pos} {n c l : Addr} (t : Bool) (d1 : n ≠ c) (d2 : l ≠ n) (d3 : l ≠ c) :
  Turn P w K (.Tuple elts k pos) (Ite K t l) [n, c] n (λ i h => (∃ old, IsEnum h n c (i : Nat) old) /\ itK t h c l i) where
 mem := by simp
 obj := λ i h st b hb => by
  obtain ⟨⟨old, hn⟩, h1⟩ := st
  simp only [List.mem_cons, List.not_mem_nil, or_false] at hb
  rcases hb with rfl | rfl
  ·exact ⟨_, hn, λ v q => by cases q⟩
  ·obtain ⟨o, xs, e, d⟩ := q1D h1; exact ⟨o, e, λ v q => by rw [d] at q; cases q⟩
 keep := λ i h h' st q => by
  obtain ⟨⟨old, hn⟩, h1⟩ := st
  exact ⟨⟨old, q n (by simp) _ hn⟩, q3U h1 λ o e => q c (by simp) o e⟩
 item := by
  intro X hP hw hK hc i pins s σ H E I hf st hg
  subst hP hw hK
  obtain ⟨⟨old, hn⟩, h1⟩ := st
  obtain ⟨xs, x, q1, hx⟩ := hg
  obtain ⟨its, rv, p⟩ := I.sqd q1
  obtain ⟨u, hu, ru⟩ := rv.get hx
  refine q8f (q7j t d3) hn (q7a h1 p) (x := u) (by simpa using hu) d1 d2 λ h' a => ⟨_, rfl, ?_⟩
  obtain ⟨a1, a2, a3, a4, a5⟩ := a
  refine wpAny_letOwnedTupleGo_enum a1 λ h2 hn2 t2 => ?_
  have hsz : s.heap.objs.size ≠ n := Nat.ne_of_gt (Heap.lt_size hn)
  have keep : ∀ b o, b ∉ [n, c] -> s.heap.get? b = some o -> h2.get? b = some o := λ b o hb e => t2.extBut _ _ (λ q => hb (by simp [q])) (a5 b o (λ q => hb (by simp [q])) (λ q => hb (by simp [q])) e)
  have I1 : Inv X pins σ H { s with heap := h2, toks := s.toks + 1 } := I.turnedL (t' := s.toks + 1) keep hf
  have hn' : H s.heap.objs.size = none := I.hok.fresh (Nat.le_refl _)
  have f5 := I.fpOk (Nat.le_refl _) hn'
  have new : h2.get? s.heap.objs.size = some { cls := .type "tuple", data := .seq #[.int i s.toks, u] } := t2.extBut _ _ hsz a3
  have h0 : X.s₀.heap.get? s.heap.objs.size = none := Heap.get?_none_of_le I.sz
  have I2 : Inv X pins σ (upd H s.heap.objs.size (.tup [.int i, x])) { s with heap := h2, toks := s.toks + 1 } := I1.track hn' h0 f5.2.1 (λ n c e => f5.2.2.2.2.1 n c e) (λ q hq => f5.2.2.2.2.2 q hq)
   ⟨by show (2 : Nat) <= sizeLine; decide, [.int i s.toks, u], .cons ⟨_, rfl⟩ (.cons ru .nil), _, new, ⟨rfl, rfl⟩, _, rfl⟩
  refine ⟨.ref s.heap.objs.size, _, I2, rfl, ⟨_, x, rfl, hn', λ xs' e => by rw [I.sqd_inj e q1]; exact hx, rfl⟩, ⟨⟨_, by simpa using hn2⟩, q3U (q6K a2) λ o e => t2.extBut _ _ (Ne.symm d1) e⟩, λ b hb => ?_⟩
  have lt : b ≠ s.heap.objs.size := by
   simp only [List.mem_cons, List.not_mem_nil, or_false] at hb
   rcases hb with rfl | rfl
   ·exact Ne.symm hsz
   ·obtain ⟨o, _, e, _⟩ := q1D h1; exact Nat.ne_of_lt (Heap.lt_size e)
  rw [q0j lt]
  exact (hf b hb).1
 done := by
  intro X hP hw hK hc i pins s σ H E I hf st hg
  subst hP hw hK
  obtain ⟨⟨old, hn⟩, h1⟩ := st
  obtain ⟨xs, q1, hx⟩ := hg
  obtain ⟨its, rv, p⟩ := I.sqd q1
  have e1 := rv.length
  exact q8b (I.ok.hd hc) (q7j t d3) hn (q7a h1 p) (by simp; omega) λ h' a => ⟨rfl, I.turnedL (t' := s.toks) (ch := [n, c]) (λ b o hb e => a b o (λ q => hb (by simp [q])) e) hf⟩
 self := λ _ _ _ _ _ st h => by
  obtain ⟨⟨old, hn⟩, _⟩ := st
  exact wpAny_pyIter_enum hn h
theorem q2x : ∀ (k : Nat) (xs : List DV), (enuD k xs).length = xs.length
 | _, [] => rfl
 | k, x :: xs => by rw [enuD, List.length_cons, q2x (k + 1) xs, List.length_cons]
theorem q6z : ∀ {k : Nat} {xs : List DV} {i : Nat} {d : DV}, (enuD k xs)[i]? = some d -> ∃ x, xs[i]? = some x /\ d = .tup [.int ((k + i : Nat) : Int), x]
 | _, [], _, _, h => by simp [enuD] at h
 | k, x :: xs, 0, d, h => by simp [enuD] at h; exact ⟨x, rfl, h.symm⟩
 | k, x :: xs, i + 1, d, h => by
  rw [enuD, List.getElem?_cons_succ] at h
  obtain ⟨y, e1, e2⟩ := q6z h
  exact ⟨y, by simpa using e1, by rw [e2, show k + 1 + i = k + (i + 1) from by omega]⟩
theorem Wk.enum {D : Dm} {ds : List DV} {Oc Oi : List Addr} {H1 : Hp} {a : Addr} {xs : List V} {t : Bool} (h : SqD t D.K (L2.wo Oc H1) a xs) (r : RepL D (L2.wo Oi H1) ds xs) : Wk D (Ite D.K t a) (enuD 0 ds) Oc Oi H1 where
 go := λ i H s hi => by
  rw [q2x] at hi
  exact ⟨xs, xs[i]'(by rw [r.length]; omega), q0F.sqd (s.sqd h), List.getElem?_eq_getElem _⟩
 same := λ i H x H' y => by
  obtain ⟨p, v, _, hp, _, e⟩ := y
  rw [e]; exact q0h hp
 yld := λ i H x H' d O2 s s' y e ho => by
  obtain ⟨p, v, ex, hp, y1, eH⟩ := y
  obtain ⟨d1, q1, rfl⟩ := q6z e
  obtain ⟨v1, z1, z2⟩ := r.get q1
  have w1 := y1 xs (q0F.sqd (s.sqd h))
  rw [z1] at w1; cases w1
  have hpo : p ∉ O2 := λ z => (ho p z).1 hp
  subst eH
  refine q0z.mpr ⟨p, _, ex, SqT.of (by rw [q0n hpo]; exact q0m), ?_⟩
  have up : Same (L2.wo Oi H1) (L2.wo O2 (upd H p (.tup [.int i, v]))) := (q6G s' ho).trans (q0h hp).wo
  exact q0e.mpr ⟨_, _, rfl, q0A.mpr (by rw [Nat.zero_add]), RepL.one (z2.mono up)⟩
 stop := λ H s => ⟨xs, q0F.sqd (s.sqd h), by rw [q2x, r.length]; exact Nat.le_refl _⟩
section
variable {X : Cx} {E : St -> XK} {δ : List Sv} {e : Expr} {elts : List Expr} {k : Nat} {tpos pos p : Pos} {ra : Option Re} {ri : Ri}
theorem q3t {n a : Nat} (h : a < n) : n + 1 ≠ n /\ a ≠ n + 1 /\ a ≠ n := by omega
theorem q6V : bootBuiltins "enumerate" = some (.type "enumerate") := by decide +kernel
theorem z2w {ta : TA} (hg : Gl X "enumerate") (hm : X.mg "enumerate" = none) (ha : PA X [e] ta) (hs : q0k e = false) :
  PI X (.Tuple elts k tpos) (.Call (.Name "enumerate" p) [e] [] pos) (λ σ H R => ta σ H λ vs H1 => ∃ t a, vs = [.ref a] /\ (∃ xs, SqD t X.K H1 a xs) /\ R (Ite X.K t a) H1) := by
 intro pins s σ H R I h
 refine Call_ (q2q I hg hm q6V (PyProof.Rows.callWith_type1 (thn (ha pos pins s σ H _ I h) λ us s1 ⟨vs, H1, I1, r1, q1⟩ => ?_) (by rw [q0i hs]) (q1z [] (by simp))))
 obtain ⟨t, a, e1, ⟨xs, hx⟩, q⟩ := q1
 subst e1
 obtain ⟨u, rfl, ru⟩ := r1.one
 cases ru
 obtain ⟨its, rv, p1⟩ := I1.sqd hx
 have la := p1.lt
 refine q7n t p1 λ h' z1 z4 z6 z7 => ?_
 have I2 : Inv X pins σ H1 { s1 with heap := h' } := I1.kept (t' := s1.toks) z7
 refine wpAny_pyIter_enum z1 ⟨s1.heap.objs.size + 1, [s1.heap.objs.size + 1, s1.heap.objs.size], _, _, H1, rfl, I2,
  q9h (l := a) t (q3t la).1 (q3t la).2.1 (q3t la).2.2, ⟨⟨_, z1⟩, q6K z4⟩, λ c hc => ?_, q⟩
 have hc' : s1.heap.objs.size <= c := by
  simp only [List.mem_cons, List.not_mem_nil, or_false] at hc
  rcases hc with rfl | rfl
  ·exact Nat.le_add_right ..
  ·exact Nat.le_refl _
 exact I1.fpOk hc' (I1.hok.fresh hc')
theorem q9D (hg : Gl X "enumerate") (hm : X.mg "enumerate" = none) (hs : q0k e = false) (ha : ∀ q, ra = some q -> PE X e (dE X.D E δ q))
  (h : q0N (Re.thn ra λ x c => q7t x c) = some ri) : PI X (.Tuple elts k tpos) (.Call (.Name "enumerate" p) [e] [] pos) (dI X.D E δ ri) := by
 have C := λ ta (hA : PE X e ta) => z2w (elts := elts) (k := k) (tpos := tpos) (p := p) (pos := pos) hg hm (q0V hA q3b (q0i hs)) hs
 cases hra : ra with
 | none => rw [hra] at h; cases h
 | some q =>
  rw [hra] at h
  have A := ha q hra
  cases q with
  | ex c => cases h; exact (C _ A).weak λ σ H R' ⟨O, W, R, p⟩ => ⟨O, W, R, p⟩
  | ok dx cx =>
   have h' : q0N (q7t dx cx) = some ri := h
   unfold q7t at h'
   split at h'
   ·rename_i t1 ds1 k1
    cases h'
    exact (C _ A).weak λ σ H R' ⟨O, W, R, p⟩ => ⟨O, W, R, λ x H1 s1 g1 => by
     have hd := R.hid.mono s1
     obtain ⟨a, xs, e1, e2, e3⟩ := q3r k1 g1 hd
     exact ⟨t1, a, by rw [e1], ⟨xs, q0F.sqd e2⟩, p _ H1 s1 (.enum ((q0x q3T).sqd e2) (e3.mono (q0x q2G)))⟩⟩
   ·cases h'
end
end L2
end
section
namespace L2
open PySem PySem.Spec PyProof.Rows
noncomputable def dEnd (D : Dm) (E : St -> XK) (H0 : Hp) (O : List Addr) (Dn : Ends) : Out -> Prop
 | .nx δ => ∀ σ H W, RSt D H σ δ O W -> (∀ a ∈ W, H0 a = none) -> Same H0 H -> Dn.nx σ H
 | .rt d fr => ∀ v H, Same H0 H -> GotR D O H0 H d fr v -> Dn.rt v H
 | .rtt d => ∀ v H, Same H0 H -> GotT D O H0 H d v -> Dn.rt v H
 | .ex c δ => ∀ σ H W C, D.mg c = some C -> RSt D H σ δ O W -> (∀ a ∈ W, H0 a = none) -> Same H0 H -> E σ C none H
noncomputable def dS (D : Dm) (E : St -> XK) (δ : List Sv) (o : Out) : TS := λ Dn σ H => ∃ H0 O W, RSt D H σ δ O W /\ (∀ a ∈ W, H0 a = none) /\ (∀ a ∈ O, H0 a ≠ none) /\ Same H0 H /\ dEnd D E H0 O Dn o
section
variable {X : Cx} {E : St -> XK} {δ δ1 : List Sv} {st : Stmt} {rest body els : List Stmt} {o : Out} {e c : Expr} {pos pos' : Pos} {ra : Option Re} {rt : Option Rt} {i : Nat} {x : Str}
theorem z2t : PSs X [] (dS X.D E δ (.nx δ)) := z1g.weak λ Dn σ H ⟨H0, O, W, R, fr, fo, sm, k⟩ => k σ H W R fr sm
theorem q9I (h1 : PS X st (dS X.D E δ (.nx δ1))) (h2 : PSs X rest (dS X.D E δ1 o)) : PSs X (st :: rest) (dS X.D E δ o) :=
 (q3m h1 h2).weak λ Dn σ H ⟨H0, O, W, R, fr, fo, sm, k⟩ => ⟨H0, O, W, R, fr, fo, sm, λ σ' H' W' R' fr' sm' => ⟨H0, O, W', R', fr', fo, sm', k⟩⟩
theorem z3Z {d : DV} {fr : Bool} (h1 : PS X st (dS X.D E δ (.rt d fr))) : PSs X (st :: rest) (dS X.D E δ (.rt d fr)) :=
 (q3m h1 q1m).weak λ Dn σ H ⟨H0, O, W, R, fr, fo, sm, k⟩ => ⟨H0, O, W, R, fr, fo, sm, k⟩
theorem z2c {d : DV} (h1 : PS X st (dS X.D E δ (.rtt d))) : PSs X (st :: rest) (dS X.D E δ (.rtt d)) :=
 (q3m h1 q1m).weak λ Dn σ H ⟨H0, O, W, R, fr, fo, sm, k⟩ => ⟨H0, O, W, R, fr, fo, sm, k⟩
theorem z3t {c : Str} {δ' : List Sv} (h1 : PS X st (dS X.D E δ (.ex c δ'))) : PSs X (st :: rest) (dS X.D E δ (.ex c δ')) :=
 (q3m h1 q1m).weak λ Dn σ H ⟨H0, O, W, R, fr, fo, sm, k⟩ => ⟨H0, O, W, R, fr, fo, sm, k⟩
theorem q4S {D : Dm} {H0 H : Hp} {O W : List Addr} {σ : St} {Dn : Ends} {c : Str} {Q : VK} (R : RSt D H σ δ O W) (fr : ∀ a ∈ W, H0 a = none) (sm : Same H0 H) (k : dEnd D E H0 O Dn (.ex c δ)) : Post D E σ O W H H Q (.ex c) :=
 λ H' C m s => k σ H' W C m (R.mono s) fr (sm.trans s)
theorem z3I (hc : ∀ q, rt = some q -> PT X c (dT X.D E δ q)) {ro rp : Option Out} (h1 : ∀ q, ro = some q -> PSs X body (dS X.D E δ q)) (h2 : ∀ q, rp = some q -> PSs X els (dS X.D E δ q)) (h : (Rt.thnS δ rt λ k => if k then ro else rp) = some o) : PS X (.If c body els pos) (dS X.D E δ o) := by
 cases hrt : rt with
 | none => rw [hrt] at h; cases h
 | some q =>
  rw [hrt] at h
  have C := hc q hrt
  cases q with
  | ex c => cases h; exact (z3c C q1m q1m).weak λ Dn σ H ⟨H0, O, W, R, fr, fo, sm, k⟩ => ⟨O, W, R, λ H' C m s => k σ H' W C m (R.mono s) fr (sm.trans s)⟩
  | ok b =>
   cases b with
   | true =>
    have h' : ro = some o := h
    exact (z3c C (h1 o h') q1m).weak λ Dn σ H ⟨H0, O, W, R, fr, fo, sm, k⟩ => ⟨O, W, R, λ H1 s1 => iteT ⟨H0, O, W, R.mono s1, fr, fo, sm.trans s1, k⟩⟩
   | false =>
    have h' : rp = some o := h
    exact (z3c C q1m (h2 o h')).weak λ Dn σ H ⟨H0, O, W, R, fr, fo, sm, k⟩ => ⟨O, W, R, λ H1 s1 => iteF ⟨H0, O, W, R.mono s1, fr, fo, sm.trans s1, k⟩⟩
theorem z2E (ha : ∀ q, ra = some q -> PE X e (dE X.D E δ q)) (h : (Re.thnS δ ra λ d c => some (retD d c)) = some o) : PS X (.Return (some e) pos) (dS X.D E δ o) := by
 cases hra : ra with
 | none => rw [hra] at h; cases h
 | some q =>
  rw [hra] at h
  have A := ha q hra
  cases q with
  | ex c => cases h; exact (q6c A).weak λ Dn σ H ⟨H0, O, W, R, fr, fo, sm, k⟩ => ⟨O, W, R, q4S R fr sm k⟩
  | ok d cl =>
   have h2 : some (retD d cl) = some o := h
   cases h2
   by_cases hft : cl = .ft
   ·subst hft
    refine (q6c A).weak λ Dn σ H ⟨H0, O, W, R, fr, fo, sm, k⟩ => ⟨O, W, R, λ v H1 s1 g => (k : dEnd X.D E H0 O Dn (.rtt d)) v H1 (sm.trans s1) ?_⟩
    obtain ⟨t, ts, p, xs, ds, es, e1, e2, e0, e3, e4, e5, e6⟩ := g
    have up : Same (L2.wo (p :: (O ++ W)) H1) (L2.wo (p :: O) H1) := q0x λ b hb => by rcases List.mem_cons.mp hb with z | z; exact List.mem_cons.mpr (.inl z); exact List.mem_cons_of_mem _ (List.mem_append_left _ z)
    exact .inl ⟨t, ts, p, xs, ds, es, e1, e2, (q0x q4W).tseq e0, sm.free e3, e4, e5.mono up, e6.mono up⟩
   have hrt : retD d cl = .rt d (frD d cl) := by cases cl <;> first | rfl | exact absurd rfl hft
   rw [hrt]
   refine (q6c A).weak λ Dn σ H ⟨H0, O, W, R, fr, fo, sm, k⟩ => ⟨O, W, R, λ v H1 s1 g => (k : dEnd X.D E H0 O Dn (.rt d (frD d cl))) v H1 (sm.trans s1) ?_⟩
   have hd := R.hid.mono s1
   cases hf : frD d cl with
   | false => exact g.weak hd
   | true =>
    unfold frD at hf
    split at hf
    ·obtain ⟨p, xs, ds, e1, e2, e3, e4, e5⟩ := g
     exact ⟨p, xs, ds, e1, e2, sm.free e3, e4, e5.mono (q0x λ b hb => by rcases List.mem_cons.mp hb with z | z; exact List.mem_cons.mpr (.inl z); exact List.mem_cons_of_mem _ (List.mem_append_left _ z))⟩
    ·obtain ⟨a, xs, e1, e0, e2, e3⟩ := g
     exact ⟨a, xs, _, e1, rfl, fr a e0, q0F _ _ e2, e3.mono (q0x λ b hb => by rcases List.mem_cons.mp hb with z | z; rw [z]; exact List.mem_append_right _ e0; exact List.mem_append_left _ z)⟩
    ·cases hf
theorem q4h {v : Expr} {t : Option Expr} {l : Nat} {env : Env} (h : q4g v = false) : swapsWith v t l env = pure false := by
 cases v <;> first | rfl | cases h
theorem q1j {O W : List Addr} {p b : Addr} : b ∈ O ++ p :: W ↔ b ∈ p :: (O ++ W) := by
 simp only [List.mem_append, List.mem_cons]
 constructor
 ·rintro (h | h | h)
  ·exact .inr (.inl h)
  ·exact .inl h
  ·exact .inr (.inr h)
 ·rintro (h | h | h)
  ·exact .inr (.inl h)
  ·exact .inl h
  ·exact .inr (.inr h)
theorem q0b {α : Type} {l : List α} {i j : Nat} {a b : α} (h : (l.set i a)[j]? = some b) (hn : a ≠ b) : j ≠ i := λ z => by
 subst z
 have hl : j < l.length := by
  have := (List.getElem?_eq_some_iff.mp h).1
  rw [List.length_set] at this; exact this
 rw [List.getElem?_set_self hl] at h
 exact hn (Option.some.inj h)
theorem q2E {α : Type} {l : List α} {i : Nat} {a b : α} (h : (l.set i a)[i]? = some b) : i < l.length /\ a = b := by
 have hl : i < l.length := by
  have := (List.getElem?_eq_some_iff.mp h).1
  rw [List.length_set] at this; exact this
 rw [List.getElem?_set_self hl] at h
 exact ⟨hl, Option.some.inj h⟩
theorem RSt.alloc {D : Dm} {H H' : Hp} {σ : St} {O W : List Addr} {p : Addr} {xs : List V} {ds : List DV} (R : RSt D H σ δ O W) (s : Same H H') (hp : H p = none) (hp' : H' p = some (.lst xs)) (r : RepL D (L2.wo (p :: (O ++ W)) H') ds xs) (i : Nat) :
  RSt D H' (σ.set i (some (.ref p))) (δ.set i (.own (.lst ds))) O (p :: W) := by
 have old : Same (L2.wo (O ++ W) H) (L2.wo (O ++ p :: W) H') := λ b o e => by
  obtain ⟨hb, e⟩ := q0J e
  have hbp : b ≠ p := q0o e hp
  rw [q0n (λ z => by rcases List.mem_cons.mp (q1j.mp z) with z | z; exact hbp z; exact hb z)]
  exact s b o e
 have eqv : Same (L2.wo (p :: (O ++ W)) H') (L2.wo (O ++ p :: W) H') := q0x λ b hb => q1j.mp hb
 refine ⟨λ j d h => ?_, λ j ds' h => ?_, λ j k a d1 d2 h1 h2 e1 e2 => ?_, λ j d h => ?_, λ j d h => by
   have hj := q0b h (by intro z; cases z)
   rw [List.getElem?_set_ne (Ne.symm hj)] at h ⊢
   obtain ⟨⟨p1, L, e0, e1, e2, e3⟩, u, n⟩ := R.o2 j d h
   refine ⟨⟨p1, L, e0, e1, (e2.mono s).sub λ a _ ha => List.mem_cons_of_mem _ ha, λ k d2 a q q2 => ?_⟩, λ k d2 q => ?_, λ k d2 q => ?_⟩
   ·by_cases hk : k = i
    ·subst hk
     obtain ⟨_, z⟩ := q2E q2
     cases z
     intro z
     obtain ⟨_, ys, w⟩ := e2.dom z
     rw [hp] at w
     cases w
    ·rw [List.getElem?_set_ne (Ne.symm hk)] at q q2
     exact e3 k d2 a q q2
   ·have hk := q0b q (by intro z; cases z)
    rw [List.getElem?_set_ne (Ne.symm hk)] at q
    exact u k d2 q
   ·have hk := q0b q (by intro z; cases z)
    rw [List.getElem?_set_ne (Ne.symm hk)] at q
    exact n k d2 q, R.od.step (q6x _ (by intro d z; cases z)) (λ _ h _ => List.mem_cons_of_mem _ h) (λ a kvs _ h => s _ _ h), by rw [List.length_set, List.length_set]; exact R.len, ⟨λ a ha => ?_, Same.refl _, λ a ha => ?_, λ a ha => ?_⟩⟩
 ·have hj := q0b h (by intro z; cases z)
  rw [List.getElem?_set_ne (Ne.symm hj)] at h ⊢
  obtain ⟨v, e1, e2⟩ := R.val j d h
  exact ⟨v, e1, e2.mono old⟩
 ·by_cases hj : j = i
  ·subst hj
   obtain ⟨hl, e⟩ := q2E h
   cases e
   exact ⟨p, xs, ds, rfl, List.getElem?_set_self (by rw [R.len]; exact hl), List.mem_cons_self, hp', r.mono eqv⟩
  ·rw [List.getElem?_set_ne (Ne.symm hj)] at h ⊢
   obtain ⟨a, ys, ds1, e0, e1, e2, e3, e4⟩ := R.own j ds' h
   exact ⟨a, ys, ds1, e0, e1, List.mem_cons_of_mem _ e2, s _ _ e3, e4.mono old⟩
 ·have key : ∀ {j : Nat} {d1 : DV}, (δ.set i (.own (.lst ds)))[j]? = some (.own d1) -> (σ.set i (some (.ref p)))[j]? = some (some (V.ref a)) -> (j = i /\ a = p) \/ (j ≠ i /\ δ[j]? = some (.own d1) /\ σ[j]? = some (some (V.ref a)) /\ a ≠ p) := λ {j d1} h e => by
   by_cases hj : j = i
   ·subst hj
    obtain ⟨_, z⟩ := q2E e
    cases z
    exact .inl ⟨rfl, rfl⟩
   ·rw [List.getElem?_set_ne (Ne.symm hj)] at h e
    refine .inr ⟨hj, h, e, λ z => ?_⟩
    obtain ⟨a', ys, ds1, _, q1, _, q3, _⟩ := R.own j d1 h
    rw [e] at q1; cases q1
    rw [z, hp] at q3; cases q3
  rcases key h1 e1 with ⟨z1, z2⟩ | ⟨z1, z2, z3, z4⟩ <;> rcases key h2 e2 with ⟨y1, y2⟩ | ⟨y1, y2, y3, y4⟩
  ·rw [z1, y1]
  ·exact absurd z2 y4
  ·exact absurd y2 z4
  ·exact R.inj j k a d1 d2 z2 y2 z3 y3
 ·have hj := q0b h (by intro z; cases z)
  rw [List.getElem?_set_ne (Ne.symm hj)] at h ⊢
  obtain ⟨⟨t, ts, p1, ys, ds1, es, e0, e1, e2, e3, e4, e5, e6, e7⟩, u⟩ := R.ot j d h
  refine ⟨⟨t, ts, p1, ys, ds1, es, e0, e1, old.tseq e2, List.mem_cons_of_mem _ e3, s _ _ e4, e5.mono old, e6.mono old, λ k d2 q => ?_⟩, λ k d2 q => ?_⟩
  ·by_cases hk : k = i
   ·subst hk
    intro z
    obtain ⟨_, z⟩ := q2E z
    cases z
    rw [hp] at e4
    cases e4
   ·rw [List.getElem?_set_ne (Ne.symm hk)] at q ⊢
    exact e7 k d2 q
  ·have hk := q0b q (by intro z; cases z)
   rw [List.getElem?_set_ne (Ne.symm hk)] at q
   exact u k d2 q
 ·rcases List.mem_cons.mp (q1j.mp ha) with z | z
  ·rw [z, hp']; intro q; cases q
  ·intro q; exact R.hid.ot a z (s.free q)
 ·rcases List.mem_cons.mp ha with z | z
  ·exact ⟨_, by rw [z]; exact hp', rfl⟩
  ·obtain ⟨ys, q, m⟩ := R.hid.wl a z; exact ⟨ys, s _ _ q, m⟩
 ·rcases List.mem_cons.mp ha with z | z
  ·intro q; exact R.hid.ot p (List.mem_append_left _ (by rw [← z]; exact q)) hp
  ·exact R.hid.dj a z
theorem q5T {i : Nat} {δ : List Sv} (h : noOt i δ = true) {j : Nat} {d : DV} (q : δ[j]? = some (.ot d)) : j = i := by
 unfold noOt at h
 rw [List.all_eq_true] at h
 have hj : j < δ.length := (List.getElem?_eq_some_iff.mp q).1
 have := h j (List.mem_range.mpr hj)
 rw [q] at this
 simpa using this
theorem q9e {i : Nat} {δ : List Sv} (h : noOt i δ = true) {j : Nat} {d : DV} (q : δ[j]? = some (.o2 d)) : j = i := by
 unfold noOt at h
 rw [List.all_eq_true] at h
 have hj : j < δ.length := (List.getElem?_eq_some_iff.mp q).1
 have := h j (List.mem_range.mpr hj)
 rw [q] at this
 simpa using this
theorem q8z {i : Nat} {δ : List Sv} (h : noOt i δ = true) {j : Nat} {d : DV} (q : δ[j]? = some (.od d)) : j = i := by
 unfold noOt at h
 rw [List.all_eq_true] at h
 have hj : j < δ.length := (List.getElem?_eq_some_iff.mp q).1
 have := h j (List.mem_range.mpr hj)
 rw [q] at this
 simpa using this
theorem RSt.allocT {D : Dm} {H H' : Hp} {σ : St} {O W : List Addr} {t p : Addr} {ts xs : List V} {ds es : List DV} (R : RSt D H σ δ O W) (s : Same H H') (ht : SqT D.K (L2.wo (O ++ W) H') t (.ref p :: ts)) (hp : H p = none) (hp' : H' p = some (.lst xs)) (r : RepL D (L2.wo (p :: (O ++ W)) H') ds xs) (r2 : RepL D (L2.wo (p :: (O ++ W)) H') es ts) (i : Nat) (hno : noOt i δ = true) :
  RSt D H' (σ.set i (some (.ref t))) (δ.set i (.ot (.tup (.lst ds :: es)))) O (p :: W) := by
 have old : Same (L2.wo (O ++ W) H) (L2.wo (O ++ p :: W) H') := λ b o e => by
  obtain ⟨hb, e⟩ := q0J e
  have hbp : b ≠ p := q0o e hp
  rw [q0n (λ z => by rcases List.mem_cons.mp (q1j.mp z) with z | z; exact hbp z; exact hb z)]
  exact s b o e
 have eqv : Same (L2.wo (p :: (O ++ W)) H') (L2.wo (O ++ p :: W) H') := q0x λ b hb => q1j.mp hb
 have ht' : SqT D.K (L2.wo (O ++ p :: W) H') t (.ref p :: ts) := by
  have ne : ∀ {o : HO}, L2.wo (O ++ W) H' t = some o -> (∀ ys, o ≠ .lst ys) -> L2.wo (O ++ p :: W) H' t = some o := λ {o} e ho => by
   obtain ⟨hb, e⟩ := q0J e
   rw [q0n (λ z => by
    rcases List.mem_cons.mp (q1j.mp z) with z | z
    ·rw [z, hp'] at e; cases e; exact ho _ rfl
    ·exact hb z)]
   exact e
  rcases ht with (h | ⟨o, h⟩) | h
  ·exact .inl (.inl (ne h (by intro ys z; cases z)))
  ·exact .inl (.inr ⟨o, ne h (by intro ys z; cases z)⟩)
  ·exact .inr h
 refine ⟨λ j d h => ?_, λ j ds' h => ?_, λ j k a d1 d2 h1 h2 e1 e2 => ?_, λ j d h => ?_, λ j d h => absurd (q9e hno (by have hj := q0b h (by intro z; cases z); rw [List.getElem?_set_ne (Ne.symm hj)] at h; exact h)) (q0b h (by intro z; cases z)), R.od.step (q6x _ (by intro d z; cases z)) (λ _ h _ => List.mem_cons_of_mem _ h) (λ a kvs _ h => s _ _ h), by rw [List.length_set, List.length_set]; exact R.len, ⟨λ a ha => ?_, Same.refl _, λ a ha => ?_, λ a ha => ?_⟩⟩
 ·have hj := q0b h (by intro z; cases z)
  rw [List.getElem?_set_ne (Ne.symm hj)] at h ⊢
  obtain ⟨v, e1, e2⟩ := R.val j d h
  exact ⟨v, e1, e2.mono old⟩
 ·have hj := q0b h (by intro z; cases z)
  rw [List.getElem?_set_ne (Ne.symm hj)] at h ⊢
  obtain ⟨a, ys, ds1, e0, e1, e2, e3, e4⟩ := R.own j ds' h
  exact ⟨a, ys, ds1, e0, e1, List.mem_cons_of_mem _ e2, s _ _ e3, e4.mono old⟩
 ·have n1 := q0b h1 (by intro z; cases z)
  have n2 := q0b h2 (by intro z; cases z)
  rw [List.getElem?_set_ne (Ne.symm n1)] at h1 e1
  rw [List.getElem?_set_ne (Ne.symm n2)] at h2 e2
  exact R.inj j k a d1 d2 h1 h2 e1 e2
 ·have hj : j = i := by
   by_cases hj : j = i
   ·exact hj
   ·rw [List.getElem?_set_ne (Ne.symm hj)] at h
    exact q5T hno h
  subst hj
  obtain ⟨hl, e⟩ := q2E h
  cases e
  refine ⟨⟨t, ts, p, xs, ds, es, rfl, List.getElem?_set_self (by rw [R.len]; exact hl), ht', List.mem_cons_self, hp', r.mono eqv, r2.mono eqv, λ k d2 q => ?_⟩, λ k d2 q => ?_⟩
  ·have hk := q0b q (by intro z; cases z)
   rw [List.getElem?_set_ne (Ne.symm hk)] at q ⊢
   intro z
   obtain ⟨a, ys, ds1, f0, f1, f2, f3, f4⟩ := R.own k d2 q
   rw [z] at f1
   cases f1
   rw [hp] at f3
   cases f3
  ·by_cases hk : k = j
   ·exact hk
   ·rw [List.getElem?_set_ne (Ne.symm hk)] at q
    exact q5T hno q
 ·rcases List.mem_cons.mp (q1j.mp ha) with z | z
  ·rw [z, hp']; intro q; cases q
  ·intro q; exact R.hid.ot a z (s.free q)
 ·rcases List.mem_cons.mp ha with z | z
  ·exact ⟨_, by rw [z]; exact hp', rfl⟩
  ·obtain ⟨ys, q, m⟩ := R.hid.wl a z; exact ⟨ys, s _ _ q, m⟩
 ·rcases List.mem_cons.mp ha with z | z
  ·intro q; exact R.hid.ot p (List.mem_append_left _ (by rw [← z]; exact q)) hp
  ·exact R.hid.dj a z
theorem RSt.write {D : Dm} {H : Hp} {σ : St} {O W : List Addr} {a : Addr} {xs' : List V} {ds ds' : List DV} (R : RSt D H σ δ O W) (hi : δ[i]? = some (.own (.lst ds))) (ha : σ[i]? = some (some (.ref a))) (r : RepL D (L2.wo (O ++ W) H) ds' xs') :
  RSt D (upd H a (.lst xs')) σ (δ.set i (.own (.lst ds'))) O W := by
 obtain ⟨a', xs, ds0, e0, e1, e2, e3, e4⟩ := R.own i _ hi
 rw [ha] at e1; cases e1
 have old : Same (L2.wo (O ++ W) H) (L2.wo (O ++ W) (upd H a (.lst xs'))) := λ b o e => by
  obtain ⟨hb, e⟩ := q0J e
  rw [q0n hb, q0j λ z => hb (by rw [z]; exact List.mem_append_right _ e2)]
  exact e
 have hl : i < δ.length := (List.getElem?_eq_some_iff.mp hi).1
 refine ⟨λ j d h => ?_, λ j ds'' h => ?_, λ j k b d1 d2 h1 h2 q1 q2 => ?_, λ j d h => ?_, λ j d h => by
   have hj := q0b h (by intro z; cases z)
   rw [List.getElem?_set_ne (Ne.symm hj)] at h
   obtain ⟨⟨p1, L, f0, f1, f2, f3⟩, u, n⟩ := R.o2 j d h
   refine ⟨⟨p1, L, f0, f1, f2.write (f3 i _ a hi ha), λ k d2 b q q2 => ?_⟩, λ k d2 q => ?_, λ k d2 q => ?_⟩
   ·by_cases hk : k = i
    ·subst hk
     exact f3 k _ b hi q2
    ·rw [List.getElem?_set_ne (Ne.symm hk)] at q
     exact f3 k d2 b q q2
   ·have hk := q0b q (by intro z; cases z)
    rw [List.getElem?_set_ne (Ne.symm hk)] at q
    exact u k d2 q
   ·have hk := q0b q (by intro z; cases z)
    rw [List.getElem?_set_ne (Ne.symm hk)] at q
    exact n k d2 q, R.od.step (q7I (by intro d z; cases z)) (λ _ h _ => h) (λ b kvs _ h => by rw [q0j (λ z => by rw [z, e3] at h; cases h)]; exact h), by rw [List.length_set]; exact R.len, ⟨λ b hb q => ?_, Same.refl _, λ b hb => ?_, R.hid.dj⟩⟩
 ·have hj := q0b h (by intro z; cases z)
  rw [List.getElem?_set_ne (Ne.symm hj)] at h
  obtain ⟨v, q1, q2⟩ := R.val j d h
  exact ⟨v, q1, q2.mono old⟩
 ·by_cases hj : j = i
  ·subst hj
   obtain ⟨_, e⟩ := q2E h
   cases e
   exact ⟨a, xs', ds', rfl, ha, e2, q0m, r.mono old⟩
  ·rw [List.getElem?_set_ne (Ne.symm hj)] at h
   obtain ⟨b, ys, ds1, q0, q1, q2, q3, q4⟩ := R.own j ds'' h
   refine ⟨b, ys, ds1, q0, q1, q2, ?_, q4.mono old⟩
   rw [q0j λ z => hj (R.inj j i a ds'' _ h hi (by rw [← z]; exact q1) ha)]
   exact q3
 ·have key : ∀ {j : Nat} {d1 : DV}, (δ.set i (.own (.lst ds')))[j]? = some (.own d1) -> ∃ d0, δ[j]? = some (.own d0) := λ {j d1} h => by
   by_cases hj : j = i
   ·subst hj; exact ⟨_, hi⟩
   ·rw [List.getElem?_set_ne (Ne.symm hj)] at h; exact ⟨d1, h⟩
  obtain ⟨d1', z1⟩ := key h1
  obtain ⟨d2', z2⟩ := key h2
  exact R.inj j k b d1' d2' z1 z2 q1 q2
 ·have hj := q0b h (by intro z; cases z)
  rw [List.getElem?_set_ne (Ne.symm hj)] at h
  obtain ⟨⟨t, ts, p1, ys, ds1, es, f0, f1, f2, f3, f4, f5, f6, f7⟩, u⟩ := R.ot j d h
  refine ⟨⟨t, ts, p1, ys, ds1, es, f0, f1, old.tseq f2, f3, ?_, f5.mono old, f6.mono old, λ k d2 q => ?_⟩, λ k d2 q => ?_⟩
  ·rw [q0j λ z => f7 i _ hi (by rw [z]; exact ha)]
   exact f4
  ·by_cases hk : k = i
   ·subst hk
    exact f7 k _ hi
   ·rw [List.getElem?_set_ne (Ne.symm hk)] at q
    exact f7 k d2 q
  ·have hk := q0b q (by intro z; cases z)
   rw [List.getElem?_set_ne (Ne.symm hk)] at q
   exact u k d2 q
 ·by_cases hba : b = a
  ·rw [hba, q0m] at q; cases q
  ·rw [q0j hba] at q; exact R.hid.ot b hb q
 ·by_cases hba : b = a
  ·exact ⟨_, by rw [hba]; exact q0m, rfl⟩
  ·obtain ⟨ys, q, m⟩ := R.hid.wl b hb; exact ⟨ys, by rw [q0j hba]; exact q, m⟩
theorem q2c {H0 H : Hp} {a : Addr} {o : HO} (h : Same H0 H) (ha : H0 a = none) : Same H0 (upd H a o) := λ b u e => by
 rw [q0j (q0o e ha)]
 exact h b u e
theorem z0S {Dn : Ends} {σ : St} {H H0 : Hp} {O W : List Addr} {own : Bool} {d : DV} {cl : Cl} {D : Dm} (h : (if own then q3z i δ d cl else (if stro d cl then some (.nx (δ.set i (.val d))) else none)) = some o)
  (R : RSt D H σ δ O W) (fr : ∀ a ∈ W, H0 a = none) (sm : Same H0 H) (k : dEnd D E H0 O Dn o) : ∀ v H', Same H H' -> Got D O W H H' d cl v -> Dn.nx (σ.set i (some v)) H' := λ v H1 s1 g => by
 cases own with
 | true =>
  simp only [if_true] at h
  unfold q3z at h
  split at h
  ·cases h
   obtain ⟨p, xs, ds, e1, e2, e3, e4, e5⟩ := g
   subst e1 e2
   exact k _ H1 (p :: W) (R.alloc s1 e3 e4 e5 i) (λ a ha => by
    rcases List.mem_cons.mp ha with z | z
    ·rw [z]; exact sm.free e3
    ·exact fr a z) (sm.trans s1)
  ·split at h
   ·rename_i hno
    cases h
    obtain ⟨t, ts, p, xs, ds, es, e1, e2, e0, e3, e4, e5, e6⟩ := g
    subst e1 e2
    exact k _ H1 (p :: W) (R.allocT s1 e0 e3 e4 e5 e6 i hno) (λ a ha => by
     rcases List.mem_cons.mp ha with z | z
     ·rw [z]; exact sm.free e3
     ·exact fr a z) (sm.trans s1)
   ·cases h
  ·cases h
 | false =>
  simp only [Bool.false_eq_true, if_false] at h
  split at h
  ·rename_i m
   cases h
   exact k _ H1 W ((R.mono s1).setVal (g.stro (R.hid.mono s1) m) i) fr (sm.trans s1)
  ·cases h
theorem q8r {own : Bool} (hN : X.N.Nodup) (hi : X.N[i]? = some x) (hx : Loc X.env.scope x) (hf : X.fn x = true \/ X.env.scope.names.lookup x = some .local) (ha : ∀ q, ra = some q -> PE X e (dE X.D E δ q)) (hc : swapsWith e (some (.Name x pos')) pos.line X.env = pure false)
  (h : (Re.thnS δ ra λ d c => if own then q3z i δ d c else (if stro d c then some (.nx (δ.set i (.val d))) else none)) = some o) : PS X (.Assign [.Name x pos'] e pos) (dS X.D E δ o) := by
 cases hra : ra with
 | none => rw [hra] at h; cases h
 | some q =>
  rw [hra] at h
  have A := ha q hra
  cases q with
  | ex c => cases h; exact (q8h hN hi hx A hc hf).weak λ Dn σ H ⟨H0, O, W, R, fr, fo, sm, k⟩ => ⟨O, W, R, q4S R fr sm k⟩
  | ok d cl => exact (q8h hN hi hx A hc hf).weak λ Dn σ H ⟨H0, O, W, R, fr, fo, sm, k⟩ => ⟨O, W, R, z0S h R fr sm k⟩
theorem q5q {own : Bool} {tgE iter elt : Expr} {ifs : List Expr} {scope : Scope} {N' : List Str} {fr : List (Option Nat)} {tg : Tg} {re : Re} (S : CompScope X.N N' scope X.env.scope fr) (hc : X.calm = true) (hN : X.N.Nodup) (hi : X.N[i]? = some x) (hx : X.env.scope.names.lookup x = some .local)
  (P : q1e X E δ tgE iter ifs elt scope N' fr tg re) (hG : ∀ C cells s₂ H₂ fp, PG (q0s X scope N' C cells s₂ H₂ fp) tgE (gT X.K tg)) (hset : q3f iter = false) {cpos : Pos} (hsw : swapsWith (.ListComp elt [⟨tgE, iter, ifs, 0⟩] scope cpos) (some (.Name x pos')) pos.line X.env = pure true)
  (h : (Re.thnS δ (some re) λ d c => if own then q3z i δ d c else (if stro d c then some (.nx (δ.set i (.val d))) else none)) = some o) : PS X (.Assign [.Name x pos'] (.ListComp elt [⟨tgE, iter, ifs, 0⟩] scope cpos) pos) (dS X.D E δ o) := by
 obtain ⟨wi, tc, te, h1, h2, h3, h4⟩ := P
 refine (q6X S hc hN hi hx h1 hG h2 h3 hsw (q4q hset)).weak λ Dn σ H ⟨H0, O, W, R, fr, fo, sm, k⟩ => h4 σ H _ ⟨O, W, R, ?_⟩
 cases re with
 | ex c => cases h; exact q4S R fr sm k
 | ok d cl => exact z0S h R fr sm k
theorem q7o {apos cpos npos : Pos} (hv : PE X (.Name x npos) (tVar i)) (he : ∀ q, ra = some q -> PE X e (dE X.D E δ q)) (hs : q0k e = false) (hline : (apos.endLine == cpos.line) = true)
  (h : (match δ[i]? with
   | some (.own (.lst ds)) => Re.thnS δ ra λ d c => if stro d c /\ ds.length < mostLen then some (.nx (δ.set i (.own (.lst (ds ++ [d]))))) else none
   | _ => none) = some o) : PS X (.Expr (.Call (.Attribute (.Name x npos) "append" apos) [e] [] cpos) pos) (dS X.D E δ o) := by
 split at h
 ·rename_i ds hi
  have C := λ t (hA : PE X e t) => z2R (pos := pos) (z4J PySem.F.plainAttrs_list PySem.F.slot_list_append PySem.F.type_list_append q8a hv (q0V hA q3b (q0i hs)) rfl (by rw [q0i hs]; rfl) hline (q0i hs) rfl) rfl
  cases hra : ra with
  | none => rw [hra] at h; cases h
  | some q =>
   rw [hra] at h
   have A := he q hra
   cases q with
   | ex c =>
    cases h
    exact (C _ A).weak λ Dn σ H ⟨H0, O, W, R, fr, fo, sm, k⟩ => by
     obtain ⟨a, xs, ds0, e0, e1, e2, e3, e4⟩ := R.own i _ hi
     exact ⟨.ref a, e1, .inl ⟨rfl, xs, SqL.of e3⟩, O, W, R, q4S (Q := λ _ _ => False) R fr sm k⟩
   | ok d cl =>
    have h' : (if stro d cl /\ ds.length < mostLen then some (Out.nx (δ.set i (.own (.lst (ds ++ [d]))))) else none) = some o := h
    split at h'
    ·rename_i m
     cases h'
     exact (C _ A).weak λ Dn σ H ⟨H0, O, W, R, fr, fo, sm, k⟩ => by
      obtain ⟨a, xs, ds0, e0, e1, e2, e3, e4⟩ := R.own i _ hi
      cases e0
      refine ⟨.ref a, e1, .inl ⟨rfl, xs, SqL.of e3⟩, O, W, R, λ v H1 s1 g => ?_⟩
      have R1 := R.mono s1
      refine ⟨a, xs, v, rfl, rfl, s1 _ _ e3, by rw [e4.length]; exact Nat.lt_of_lt_of_le m.2 (by decide), ?_⟩
      exact k σ _ W (R1.write hi e1 ((e4.mono s1.wo).append (RepL.one (g.stro (R.hid.mono s1) m.1)))) fr (q2c (sm.trans s1) (fr a e2))
    ·cases h'
 ·cases h
theorem q7F {npos spos : Pos} {ix : Expr} {rb : Option Re} (hv : PE X (.Name x npos) (tVar i)) (he : ∀ q, ra = some q -> PE X e (dE X.D E δ q)) (hx : ∀ q, rb = some q -> PE X ix (dE X.D E δ q)) (hsl : q1S ix = false)
  (h : (match δ[i]? with
   | some (.own (.lst ds)) => Re.thnS δ ra λ d c => Re.thnS δ rb λ k _ => (match k with
    | .int k => (match q2A ds.length k with
     | some j => if stro d c then some (.nx (δ.set i (.own (.lst (ds.set j d))))) else none
     | none => none)
    | _ => none)
   | _ => none) = some o) : PS X (.Assign [.Subscript (.Name x npos) ix spos] e pos) (dS X.D E δ o) := by
 have sub : ∀ v, assign (.Subscript (.Name x npos) ix spos) X.env v = (do
   let ov ← holding [v] (eval (.Name x npos) X.env)
   let iv ← holding [v, ov] (eval ix X.env)
   standAt spos
   holding [v, ov, iv] (setItem ov iv v)
   release [v, ov, iv] []) := by cases ix <;> first | (intro _; rfl) | cases hsl
 have C := λ t tk (hA : PE X e t) (hK : PE X ix tk) => z4Q (pos := pos) hA (z3q hv hK z0f sub) (by cases e <;> rfl) (by cases e <;> rfl) rfl
 split at h
 ·rename_i ds hi
  cases hra : ra with
  | none => rw [hra] at h; cases h
  | some q =>
   rw [hra] at h
   have A := he q hra
   cases q with
   | ex c =>
    cases h
    exact (C _ _ A q1u).weak λ Dn σ H ⟨H0, O, W, R, fr, fo, sm, k⟩ => ⟨O, W, R, q4S (Q := λ _ _ => False) R fr sm k⟩
   | ok d cl =>
    cases hrb : rb with
    | none => rw [hrb] at h; cases h
    | some q =>
     rw [hrb] at h
     have B := hx q hrb
     cases q with
     | ex c =>
      cases h
      exact (C _ _ A B).weak λ Dn σ H ⟨H0, O, W, R, fr, fo, sm, k⟩ => ⟨O, W, R, λ v H1 s1 g => by
       have R1 := R.mono s1
       obtain ⟨a, xs, ds0, e0, e1, e2, e3, e4⟩ := R1.own i _ hi
       exact ⟨.ref a, e1, O, W, R1, q4S (Q := λ _ _ => False) R1 fr (sm.trans s1) k⟩⟩
     | ok dk ck =>
      have h' : (match (generalizing := false) dk with
       | .int k => (match q2A ds.length k with
        | some j => if stro d cl then some (Out.nx (δ.set i (.own (.lst (ds.set j d))))) else none
        | none => none)
       | _ => none) = some o := h
      split at h'
      ·rename_i k0
       split at h'
       ·rename_i j hj
        split at h'
        ·rename_i m
         cases h'
         exact (C _ _ A B).weak λ Dn σ H ⟨H0, O, W, R, fr, fo, sm, k⟩ => ⟨O, W, R, λ v H1 s1 g => by
          have R1 := R.mono s1
          obtain ⟨a, xs, ds0, e0, e1, e2, e3, e4⟩ := R1.own i _ hi
          cases e0
          refine ⟨.ref a, e1, O, W, R1, λ y H2 s2 g2 => ?_⟩
          have R2 := R1.mono s2
          refine ⟨a, xs, k0, j, rfl, g2.int (R1.hid.mono s2), s2 _ _ e3, by rw [e4.length]; exact hj, ?_⟩
          exact k σ _ W (R2.write hi e1 (RepL.set ((g.mono s2).stro ((R.hid.mono s1).mono s2) m) j (e4.mono s2.wo))) fr (q2c ((sm.trans s1).trans s2) (fr a e2))⟩
        ·cases h'
       ·cases h'
      ·cases h'
 ·cases h
theorem RSt.freeze {D : Dm} {H : Hp} {σ : St} {O W : List Addr} {d : DV} (R : RSt D H σ δ O W) (hi : δ[i]? = some (.own d)) : ∃ W', (∀ a ∈ W', a ∈ W) /\ RSt D H σ (δ.set i (.val d)) O W' := by
 obtain ⟨a, xs, ds, e0, e1, e2, e3, e4⟩ := R.own i d hi
 subst e0
 have hl : i < δ.length := (List.getElem?_eq_some_iff.mp hi).1
 have sub : ∀ b ∈ O ++ W.filter (λ b => decide (b ≠ a)), b ∈ O ++ W := λ b hb => by
  rcases List.mem_append.mp hb with z | z
  ·exact List.mem_append_left _ z
  ·exact List.mem_append_right _ (List.mem_filter.mp z).1
 have hao : a ∉ O ++ W.filter (λ b => decide (b ≠ a)) := λ z => by
  rcases List.mem_append.mp z with z | z
  ·exact R.hid.dj a e2 z
  ·exact absurd rfl (of_decide_eq_true (List.mem_filter.mp z).2)
 refine ⟨W.filter λ b => decide (b ≠ a), λ b hb => (List.mem_filter.mp hb).1, ⟨λ j d h => ?_, λ j ds' h => ?_, λ j k b d1 d2 h1 h2 q1 q2 => ?_, λ j d h => ?_, λ j d h => by
   have hj := q0b h (by intro z; cases z)
   rw [List.getElem?_set_ne (Ne.symm hj)] at h
   obtain ⟨⟨p1, L, f0, f1, f2, f3⟩, u, n⟩ := R.o2 j d h
   refine ⟨⟨p1, L, f0, f1, f2.sub λ b hb hbw => List.mem_filter.mpr ⟨hbw, decide_eq_true λ z => f3 i _ a hi e1 (by rw [← z]; exact hb)⟩, λ k d2 b q q2 => ?_⟩, λ k d2 q => ?_, λ k d2 q => ?_⟩
   ·have hk := q0b q (by intro z; cases z)
    rw [List.getElem?_set_ne (Ne.symm hk)] at q
    exact f3 k d2 b q q2
   ·have hk := q0b q (by intro z; cases z)
    rw [List.getElem?_set_ne (Ne.symm hk)] at q
    exact u k d2 q
   ·have hk := q0b q (by intro z; cases z)
    rw [List.getElem?_set_ne (Ne.symm hk)] at q
    exact n k d2 q, R.od.step (q7I (by intro d z; cases z)) (λ b hb ⟨kvs, h⟩ => List.mem_filter.mpr ⟨hb, decide_eq_true λ z => by rw [z, e3] at h; cases h⟩) (λ _ _ _ h => h), by rw [List.length_set]; exact R.len,
  ⟨λ b hb => R.hid.ot b (sub b hb), Same.refl _, λ b hb => R.hid.wl b (List.mem_filter.mp hb).1, λ b hb => R.hid.dj b (List.mem_filter.mp hb).1⟩⟩⟩
 ·by_cases hj : j = i
  ·subst hj
   obtain ⟨_, e⟩ := q2E h
   cases e
   exact ⟨.ref a, e1, q0u.mpr ⟨a, xs, rfl, by rw [q0n hao]; exact e3, e4.mono (q0x sub)⟩⟩
  ·rw [List.getElem?_set_ne (Ne.symm hj)] at h
   obtain ⟨v, q1, q2⟩ := R.val j d h
   exact ⟨v, q1, q2.mono (q0x sub)⟩
 ·have hj := q0b h (by intro z; cases z)
  rw [List.getElem?_set_ne (Ne.symm hj)] at h
  obtain ⟨b, ys, ds1, q0, q1, q2, q3, q4⟩ := R.own j ds' h
  refine ⟨b, ys, ds1, q0, q1, List.mem_filter.mpr ⟨q2, decide_eq_true λ z => hj (R.inj j i a ds' _ h hi (by rw [← z]; exact q1) e1)⟩, q3, q4.mono (q0x sub)⟩
 ·have n1 := q0b h1 (by intro z; cases z)
  have n2 := q0b h2 (by intro z; cases z)
  rw [List.getElem?_set_ne (Ne.symm n1)] at h1
  rw [List.getElem?_set_ne (Ne.symm n2)] at h2
  exact R.inj j k b d1 d2 h1 h2 q1 q2
 ·have hj := q0b h (by intro z; cases z)
  rw [List.getElem?_set_ne (Ne.symm hj)] at h
  obtain ⟨⟨t, ts, p1, ys, ds1, es, f0, f1, f2, f3, f4, f5, f6, f7⟩, u⟩ := R.ot j d h
  refine ⟨⟨t, ts, p1, ys, ds1, es, f0, f1, (q0x sub).tseq f2, List.mem_filter.mpr ⟨f3, decide_eq_true λ z => f7 i _ hi (by rw [z]; exact e1)⟩, f4, f5.mono (q0x sub), f6.mono (q0x sub), λ k d2 q => ?_⟩, λ k d2 q => ?_⟩
  ·have hk := q0b q (by intro z; cases z)
   rw [List.getElem?_set_ne (Ne.symm hk)] at q
   exact f7 k d2 q
  ·have hk := q0b q (by intro z; cases z)
   rw [List.getElem?_set_ne (Ne.symm hk)] at q
   exact u k d2 q
theorem q6W {d : DV} (hi : δ[i]? = some (.own d)) (h : PSs X rest (dS X.D E (δ.set i (.val d)) o)) : PSs X rest (dS X.D E δ o) := h.weak λ Dn σ H ⟨H0, O, W, R, fr, fo, sm, k⟩ => by
 obtain ⟨W', hs, R'⟩ := R.freeze hi
 exact ⟨H0, O, W', R', λ a ha => fr a (hs a ha), fo, sm, k⟩
end
end L2
end
section
namespace L2
open PySem PySem.Spec PyProof.Rows
theorem PSs.any {X : Cx} {body : List Stmt} {ι : Sort _} {t : ι -> TS} (h : ∀ k, PSs X body (t k)) : PSs X body (λ D σ H => ∃ k, t k D σ H) := λ pins s σ H D I ⟨k, q⟩ => h k pins s σ H D I q
theorem PT.any {X : Cx} {e : Expr} {ι : Sort _} {t : ι -> TT} (h : ∀ k, PT X e (t k)) : PT X e (λ σ H Q => ∃ k, t k σ H Q) := λ pins s σ H Q I ⟨k, q⟩ => h k pins s σ H Q I q
structure Lp (H0 H1 : Hp) (O W : List Addr) : Prop where
 out : ∀ {H : Hp}, Same (L2.wo W H1) H -> Same H0 H
 outW : ∀ {a : Addr}, L2.wo W H1 a = none -> H0 a = none
 in1 : ∀ a ∈ W, L2.wo W H1 a = none
 in2 : ∀ a ∈ O, L2.wo W H1 a ≠ none
 wsame : ∀ {H : Hp}, Same (L2.wo W H1) H -> Same (L2.wo (O ++ W) H1) (L2.wo (O ++ W) H)
theorem Lp.mk' {H0 H1 : Hp} {O W : List Addr} (fr : ∀ a ∈ W, H0 a = none) (fo : ∀ a ∈ O, H0 a ≠ none) (sm : Same H0 H1) : Lp H0 H1 O W where
 out := λ {H} s b u e => s b u (by
  rw [q0n λ z => by rw [fr b z] at e; cases e]
  exact sm b u e)
 outW := λ {a} q => by
  by_cases z : a ∈ W
  ·exact fr a z
  ·rw [q0n z] at q; exact sm.free q
 in1 := λ a ha => z4N ha
 in2 := λ a ha => by
  rw [q0n λ z => fo a ha (fr a z)]
  intro q
  exact fo a ha (sm.free q)
 wsame := λ {H} s b u e => by
  obtain ⟨hb, e⟩ := q0J e
  rw [q0n hb]
  exact s b u (by rw [q0n λ z => hb (List.mem_append_right _ z)]; exact e)
theorem Lp.gotR {H0 H1 : Hp} {O W : List Addr} {D : Dm} {H : Hp} {d : DV} {fr : Bool} {v : V} (L : Lp H0 H1 O W) (g : GotR D O (L2.wo W H1) H d fr v) : GotR D O H0 H d fr v := by
 cases fr with
 | false => exact g
 | true =>
  obtain ⟨p, xs, ds, e1, e2, e3, e4, e5⟩ := g
  exact ⟨p, xs, ds, e1, e2, L.outW e3, e4, e5⟩
theorem Lp.gotT {H0 H1 : Hp} {O W : List Addr} {D : Dm} {H : Hp} {d : DV} {v : V} (L : Lp H0 H1 O W) (g : GotT D O (L2.wo W H1) H d v) : GotT D O H0 H d v := by
 rcases g with ⟨t, ts, p, xs, ds, es, e1, e2, e0, e3, e4, e5, e6⟩ | ⟨xs, e1, e2⟩
 ·exact .inl ⟨t, ts, p, xs, ds, es, e1, e2, e0, L.outW e3, e4, e5, e6⟩
 ·exact .inr ⟨xs, e1, e2.since λ a ha => L.outW ha⟩
section
variable {X : Cx} {E : St -> XK} {δ : List Sv} {tgE iter c : Expr} {body : List Stmt} {o : Out} {pos : Pos} {tg : Tg} {ri : Option Ri} {evB : List Sv -> Option Out} {evC : List Sv -> Option Rt}
theorem z3f (hp : PassesOwn (model X.prog X.w) X.A X.env X.xe) (hc : X.calm = true) (hi : ∀ q, ri = some q -> PI X tgE iter (dI X.D E δ q)) (hG : PG X tgE (gT X.K tg)) (hb : ∀ δ' o, evB δ' = some o -> PSs X body (dS X.D E δ' o)) (hset : q3f iter = false)
  (h : (Ri.thnS δ ri λ ds c => if c = .strong \/ c = .fresh then q1F tg evB ds δ else none) = some o) : PS X (.For tgE iter body [] pos) (dS X.D E δ o) := by
 have B : PSs X body (λ D σ H => ∃ k : { p : List Sv × Out // evB p.1 = some p.2 }, dS X.D E k.1.1 k.1.2 D σ H) := PSs.any λ k => hb k.1.1 k.1.2 k.2
 cases hri : ri with
 | none => rw [hri] at h; cases h
 | some q =>
  rw [hri] at h
  have A := hi q hri
  cases q with
  | ex c => cases h; exact (z0G hp hc A hG B (q4q hset)).weak λ Dn σ H ⟨H0, O, W, R, fr, fo, sm, k⟩ => ⟨O, W, R, λ H' C m s => k σ H' W C m (R.mono s) fr (sm.trans s)⟩
  | ok ds c =>
   have h' : (if c = .strong \/ c = .fresh then q1F tg evB ds δ else none) = some o := h
   split at h'
   ·rename_i m
    refine (z0G hp hc A hG B (q4q hset)).weak λ Dn σ H ⟨H0, O, W, R, fr, fo, sm, k⟩ => ⟨O, W, R, λ J H1 s1 w => ?_⟩
    have R1 := R.mono s1
    have L := Lp.mk' fr fo (sm.trans s1)
    have w : Wk X.D J ds (O ++ W) (O ++ W) H1 := by
     rcases m with m | m <;> subst m <;> exact w
    refine ⟨λ i n σ H => n = ds.length - i /\ i <= ds.length /\ ∃ δi W', q1F tg evB (ds.drop i) δi = some o /\ RSt X.D H σ δi O W' /\ (∀ a ∈ W', L2.wo W H1 a = none) /\ Same (L2.wo W H1) H,
     ⟨ds.length, rfl, Nat.zero_le _, δ, W, h', R1, L.in1, q0F⟩, ?_⟩
    rintro i n σ2 H2 ⟨rfl, hi, δi, W2, hgo, R2, b1, b2⟩
    by_cases hlt : i < ds.length
    ·refine .inr ⟨w.go i H2 (L.wsame b2) hlt, λ σ H => ∃ δi W', q1F tg evB (ds.drop (i + 1)) δi = some o /\ RSt X.D H σ δi O W' /\ (∀ a ∈ W', L2.wo W H1 a = none) /\ Same (L2.wo W H1) H,
      λ σ' H' q => ⟨ds.length - (i + 1), by omega, rfl, hlt, q⟩, λ x H3 y => ?_⟩
     have y1 := w.same i H2 x H3 y
     have y3 : Rep X.D (L2.wo (O ++ W2) H3) ds[i] x := w.yld i H2 x H3 _ (O ++ W2) (L.wsame b2) (L.wsame b2) y (List.getElem?_eq_getElem hlt) λ a ha => ⟨R2.hid.ot a ha, by
      rcases List.mem_append.mp ha with z | z
      ·exact .inl (List.mem_append_left _ z)
      ·have q := b1 a z
       by_cases hw : a ∈ W
       ·exact .inl (List.mem_append_right _ hw)
       ·rw [q0n hw] at q; exact .inr q⟩
     rw [List.drop_eq_getElem_cons hlt] at hgo
     unfold q1F at hgo
     split at hgo
     ·cases hgo
     ·rename_i δ1 hb1
      refine q5E (R2.mono y1) y3 hb1 λ σ3 R3 => ?_
      split at hgo
      ·rename_i δ2 hev
       exact ⟨⟨⟨δ1, .nx δ2⟩, hev⟩, L2.wo W H1, O, W2, R3, b1, L.in2, b2.trans y1, λ σ' H' W' R' fr' sm' => ⟨δ2, W', hgo, R', fr', sm'⟩⟩
      ·rename_i hne
       refine ⟨⟨⟨δ1, o⟩, hgo⟩, L2.wo W H1, O, W2, R3, b1, L.in2, b2.trans y1, ?_⟩
       cases o with
       | nx δ2 => exact absurd hgo (hne δ2)
       | rt d fr' => exact λ v H' s' g => k v H' (L.out s') (L.gotR g)
       | rtt d => exact λ v H' s' g => k v H' (L.out s') (L.gotT g)
       | ex c' δ' => exact λ σ' H' W' C m R' fr' sm' => k σ' H' W' C m R' (λ a ha => L.outW (fr' a ha)) (L.out sm')
    ·have e : i = ds.length := by omega
     subst e
     rw [List.drop_length] at hgo
     cases hgo
     exact .inl ⟨w.stop H2 (L.wsame b2), k σ2 H2 W2 R2 (λ a ha => L.outW (b1 a ha)) (L.out b2)⟩
   ·cases h'
theorem q8D {n : Nat} (hp : PassesOwn (model X.prog X.w) X.A X.env X.xe) (hc : ∀ δ' r, evC δ' = some r -> PT X c (dT X.D E δ' r)) (hb : ∀ δ' o, evB δ' = some o -> PSs X body (dS X.D E δ' o)) (h : q1b evC evB n δ = some o) : PS X (.While c body [] pos) (dS X.D E δ o) := by
 have B : PSs X body (λ D σ H => ∃ k : { p : List Sv × Out // evB p.1 = some p.2 }, dS X.D E k.1.1 k.1.2 D σ H) := PSs.any λ k => hb k.1.1 k.1.2 k.2
 have T : PT X c (λ σ H Q => ∃ k : { p : List Sv × Rt // evC p.1 = some p.2 }, dT X.D E k.1.1 k.1.2 σ H Q) := PT.any λ k => hc k.1.1 k.1.2 k.2
 refine (z0n hp T B).weak λ Dn σ H ⟨H0, O, W, R, fr, fo, sm, k⟩ => ?_
 have L := Lp.mk' fr fo sm
 refine ⟨λ m σ H2 => ∃ δi W', q1b evC evB m δi = some o /\ RSt X.D H2 σ δi O W' /\ (∀ a ∈ W', L2.wo W H a = none) /\ Same (L2.wo W H) H2, ⟨n, δ, W, h, R, L.in1, q0F⟩, ?_⟩
 rintro m σ2 H2 ⟨δi, W2, hgo, R2, b1, b2⟩
 cases m with
 | zero => cases hgo
 | succ m =>
  unfold q1b at hgo
  split at hgo
  ·cases hgo
  ·rename_i c' hev
   cases hgo
   exact ⟨⟨⟨δi, .ex c'⟩, hev⟩, O, W2, R2, λ H' C m s => k σ2 H' W2 C m (R2.mono s) (λ a ha => L.outW (b1 a ha)) (L.out (b2.trans s))⟩
  ·rename_i hev
   cases hgo
   refine ⟨⟨⟨δi, .ok false⟩, hev⟩, O, W2, R2, λ H' s => iteF ?_⟩
   exact k σ2 H' W2 (R2.mono s) (λ a ha => L.outW (b1 a ha)) (L.out (b2.trans s))
  ·rename_i hev
   refine ⟨⟨⟨δi, .ok true⟩, hev⟩, O, W2, R2, λ H' s => iteT ?_⟩
   refine ⟨λ σ H2 => ∃ δi W', q1b evC evB m δi = some o /\ RSt X.D H2 σ δi O W' /\ (∀ a ∈ W', L2.wo W H a = none) /\ Same (L2.wo W H) H2, λ σ' H' q => ⟨m, Nat.lt_succ_self m, q⟩, ?_⟩
   split at hgo
   ·rename_i δ2 hev2
    exact ⟨⟨⟨δi, .nx δ2⟩, hev2⟩, L2.wo W H, O, W2, R2.mono s, b1, L.in2, b2.trans s, λ σ' H' W' R' fr' sm' => ⟨δ2, W', hgo, R', fr', sm'⟩⟩
   ·rename_i hne
    refine ⟨⟨⟨δi, o⟩, hgo⟩, L2.wo W H, O, W2, R2.mono s, b1, L.in2, b2.trans s, ?_⟩
    cases o with
    | nx δ2 => exact absurd hgo (hne δ2)
    | rt d fr' => exact λ v H' s' g => k v H' (L.out s') (L.gotR g)
    | rtt d => exact λ v H' s' g => k v H' (L.out s') (L.gotT g)
    | ex c' δ' => exact λ σ' H' W' C m R' fr' sm' => k σ' H' W' C m R' (λ a ha => L.outW (fr' a ha)) (L.out sm')
end
end L2
end
section
namespace L2
open PySem PySem.Spec PyProof.Rows
section
variable {κ : Type} [DecidableEq κ]
noncomputable def valV (kvs : List (κ × V)) (k : κ) : Option V := (kvs.find? λ kv => decide (kv.1 = k)).map (·.2)
noncomputable def putK (kvs : List (κ × V)) (k : κ) (v : V) : List (κ × V) :=
 if (kvs.any λ kv => decide (kv.1 = k)) = true then kvs.map (λ kv => if kv.1 = k then (kv.1, v) else kv) else kvs ++ [(k, v)]
theorem q2D {p : κ × V} {r : List (κ × V)} {k : κ} (e : p.1 = k) : valV (p :: r) k = some p.2 := by simp [valV, List.find?_cons, e]
theorem q2M {p : κ × V} {r : List (κ × V)} {k : κ} (e : ¬ p.1 = k) : valV (p :: r) k = valV r k := by simp [valV, List.find?_cons, e]
theorem q6t (k : κ) : ∀ kvs : List (κ × V), (kvs.any λ kv => decide (kv.1 = k)) = (valV kvs k).isSome
 | [] => rfl
 | p :: r => by
  rw [List.any_cons]
  by_cases e : p.1 = k
  ·simp only [q2D e, decide_eq_true e, Bool.true_or, Option.isSome_some]
  ·rw [q2M e, decide_eq_false e, Bool.false_or]; exact q6t k r
theorem q3x (kvs : List (κ × V)) (k : κ) (v : V) : (putK kvs k v).length <= kvs.length + 1 := by
 unfold putK
 split
 ·rw [List.length_map]; omega
 ·rw [List.length_append, List.length_cons, List.length_nil]; omega
theorem RelO.isSome_eq {o : Option V} {u : Option Value} (r : RelO o u) : o.isSome = u.isSome := by
 cases o with
 | none => cases u with
  | none => rfl
  | some _ => exact (show False from r).elim
 | some _ => cases u with
  | none => exact (show False from r).elim
  | some _ => rfl
theorem RelO.getD {o : Option V} {u : Option Value} {d : V} {d' : Value} (r : RelO o u) (rd : RelV d d') : RelV (o.getD d) (u.getD d') := by
 cases o with
 | none => cases u with
  | none => exact rd
  | some _ => exact (show False from r).elim
 | some _ => cases u with
  | none => exact (show False from r).elim
  | some _ => exact r
theorem KV.val {kvs : List (κ × V)} {vs : List (κ × Value)} (r : KV kvs vs) (k : κ) : RelO (valV kvs k) (valueAt vs k) := by
 unfold KV at r
 induction r with
 | nil => exact True.intro
 | @cons p q ps qs h t ih =>
  obtain ⟨h1, h2⟩ := h
  by_cases e : p.1 = k
  ·have e' : q.1 = k := h1.symm.trans e
   have b : valueAt (q :: qs) k = some q.2 := by simp [valueAt, List.find?_cons, e']
   rw [q2D e, b]; exact h2
  ·have e' : ¬ q.1 = k := λ z => e (h1.trans z)
   have b : valueAt (q :: qs) k = valueAt qs k := by simp [valueAt, List.find?_cons, e']
   rw [q2M e, b]; exact ih
theorem KV.any {kvs : List (κ × V)} {vs : List (κ × Value)} (r : KV kvs vs) (k : κ) : (kvs.any λ kv => decide (kv.1 = k)) = vs.any λ kv => decide (kv.1 = k) := by
 unfold KV at r
 induction r with
 | nil => rfl
 | cons h t ih => rw [List.any_cons, List.any_cons, ih, h.1]
theorem KV.repl {kvs : List (κ × V)} {vs : List (κ × Value)} (r : KV kvs vs) (k : κ) {y : V} {u : Value} (ry : RelV y u) :
  KV (kvs.map λ kv => if kv.1 = k then (kv.1, y) else kv) (vs.map λ kv => if kv.1 = k then (kv.1, u) else kv) := by
 unfold KV at r ⊢
 induction r with
 | nil => exact .nil
 | @cons p q ps qs h t ih =>
  rw [List.map_cons, List.map_cons]
  refine .cons ?_ ih
  obtain ⟨h1, h2⟩ := h
  by_cases e : p.1 = k
  ·rw [if_pos e, if_pos (h1.symm.trans e)]; exact ⟨h1, ry⟩
  ·rw [if_neg e, if_neg (λ z => e (h1.trans z))]; exact ⟨h1, h2⟩
theorem KV.put {kvs : List (κ × V)} {vs : List (κ × Value)} (r : KV kvs vs) (k : κ) {y : V} {u : Value} (ry : RelV y u) : KV (putK kvs k y) (stored vs k u) := by
 unfold putK stored
 rw [r.any k]
 by_cases e : (vs.any λ kv => decide (kv.1 = k)) = true
 ·rw [if_pos e, if_pos e]; exact r.repl k ry
 ·rw [if_neg e, if_neg e]; exact Paired.snoc r ⟨rfl, ry⟩
theorem KV.length {kvs : List (κ × V)} {vs : List (κ × Value)} (r : KV kvs vs) : kvs.length = vs.length := Paired.length r
end
theorem q9l {P : Program} {w : World} {k : Key} {u : Value} (r : RelV (kV k) u) : (q0H P w).is k u = true := by
 cases k with
 | inl i => obtain ⟨t, e⟩ := (show ∃ t, u = Value.int i t from r); subst e; exact q5t P w i t
 | inr x => obtain ⟨t, e⟩ := (show ∃ t, u = Value.str x t from r); subst e; exact q5S P w x t
theorem q5e {P : Program} {w : World} : ∀ {ks : List Key} {us : List Value}, Vals (ks.map kV) us -> ItemsAre (q0H P w) ks us
 | [], _, r => by rw [List.map_nil] at r; cases r; exact .nil
 | k :: ks, _, r => by
  rw [List.map_cons] at r
  cases r with
  | cons h t => exact .cons (q9l h) (q5e t)
noncomputable abbrev KT (H : Hp) : List (List Key × V) -> List (List Key × Addr × Value) -> Prop := Paired λ p q => p.1 = q.1 /\ H q.2.1 = some (.tup (p.1.map kV)) /\ RelV p.2 q.2.2
theorem KT.val {H : Hp} {kvs : List (List Key × V)} {xs : List (List Key × Addr × Value)} (r : KT H kvs xs) (k : List Key) : RelO (valV kvs k) ((atKey xs k).map (·.2)) := by
 induction r with
 | nil => exact True.intro
 | @cons p q ps qs h t ih =>
  obtain ⟨h1, _, h2⟩ := h
  by_cases e : p.1 = k
  ·have e' : q.1 = k := h1.symm.trans e
   have b : atKey (q :: qs) k = some q.2 := by simp [atKey, List.find?_cons, e']
   rw [q2D e, b]; exact h2
  ·have e' : ¬ q.1 = k := λ z => e (h1.trans z)
   have b : atKey (q :: qs) k = atKey qs k := by simp [atKey, List.find?_cons, e']
   rw [q2M e, b]; exact ih
theorem KT.repl {H : Hp} {kvs : List (List Key × V)} {xs : List (List Key × Addr × Value)} (r : KT H kvs xs) (k : List Key) {y : V} {u : Value} (ry : RelV y u) :
  KT H (kvs.map λ kv => if kv.1 = k then (kv.1, y) else kv) (xs.map (putAt k u)) := by
 induction r with
 | nil => exact .nil
 | @cons p q ps qs h t ih =>
  rw [List.map_cons, List.map_cons]
  refine .cons ?_ ih
  obtain ⟨h1, h2, h3⟩ := h
  unfold putAt
  by_cases e : p.1 = k
  ·rw [if_pos e, if_pos (h1.symm.trans e)]; exact ⟨h1, h2, ry⟩
  ·rw [if_neg e, if_neg (λ z => e (h1.trans z))]; exact ⟨h1, h2, h3⟩
theorem KT.put {H : Hp} {kvs : List (List Key × V)} {xs : List (List Key × Addr × Value)} (r : KT H kvs xs) (k : List Key) {b : Addr} {y : V} {u : Value} (hb : H b = some (.tup (k.map kV))) (ry : RelV y u) :
  KT H (putK kvs k y) (storedH xs k b u) := by
 have e : (kvs.any λ kv => decide (kv.1 = k)) = (atKey xs k).isSome := by
  rw [q6t, (r.val k).isSome_eq, Option.isSome_map]
 unfold putK storedH
 rw [e]
 by_cases q : (atKey xs k).isSome = true
 ·rw [if_pos q, if_pos q]; exact r.repl k ry
 ·rw [if_neg q, if_neg q]; exact Paired.snoc r ⟨rfl, hb, ry⟩
theorem KT.keeps {H H' : Hp} {kvs : List (List Key × V)} {xs : List (List Key × Addr × Value)} (r : KT H kvs xs) (ht : ∀ b ys, H b = some (.tup ys) -> H' b = some (.tup ys)) : KT H' kvs xs :=
 Paired.mapP r λ _ _ z => ⟨z.1, ht _ _ z.2.1, z.2.2⟩
section
variable {P : Program} {w : World} {H : Hp} {h : Heap} {a : Addr}
theorem z3n {u : HO} (ok : HOk P w H h) (e : Rd H a u) : q0Y P w H h a u := e.ok ok
theorem z1P {kvs : List (Key × V)} (ok : HOk P w H h) (e : Rd H a (.dK kvs)) : kvs.length <= sizeLine /\ (a == sysModules) = false /\ ∃ vs, KV kvs vs /\ h.DictOf (q0H P w) a vs :=
 show q0Y P w H h a (.dK kvs) from z3n ok e
theorem z3N {kvs : List (Key × V)} (ok : HOk P w H h) (e : H a = some (.dK kvs)) : kvs.length <= sizeLine /\ (a == sysModules) = false /\ ∃ vs, KV kvs vs /\ h.DictOf (q0H P w) a vs := z1P ok (.inl e)
theorem q8x {ks : List Key} (ok : HOk P w H h) (e : H a = some (.tup (ks.map kV))) : (tupleKind (q0H P w)).is h ks a := by
 obtain ⟨_, its, r, o, h1, h2, n, h3⟩ := (show q0Y P w H h a (.tup (ks.map kV)) from ok a _ e)
 exact ⟨o, its.toArray, n, h1, h2.1, h3, by simpa using q5e r⟩
theorem z2D {kvs : List (List Key × V)} (ok : HOk P w H h) (e : Rd H a (.dT kvs)) : kvs.length <= sizeLine /\ (a == sysModules) = false /\
  ∃ xs, KT H kvs xs /\ h.DictOfH (tupleKind (q0H P w)) a xs := by
 obtain ⟨z, y, xs, r, o, es, ep, h1, h2, h3, h4, h5⟩ := (show q0Y P w H h a (.dT kvs) from z3n ok e)
 refine ⟨z, y, xs, r, o, es, ep, h1, h2, h3, h4, λ x hx => ?_, h5⟩
 have all : ∀ {l : List (List Key × V)} {m : List (List Key × Addr × Value)}, KT H l m -> ∀ x ∈ m, (tupleKind (q0H P w)).is h x.1 x.2.1 := by
  intro l m q
  induction q with
  | nil => intro x hx; exact nomatch hx
  | @cons p q ps qs hq t ih =>
   intro x hx
   rcases List.mem_cons.mp hx with e | hx
   ·subst e
    exact q8x ok (by rw [← hq.1]; exact hq.2.1)
   ·exact ih x hx
 exact all r x hx
theorem z5D {kvs : List (List Key × V)} (ok : HOk P w H h) (e : H a = some (.dT kvs)) : kvs.length <= sizeLine /\ (a == sysModules) = false /\
  ∃ xs, KT H kvs xs /\ h.DictOfH (tupleKind (q0H P w)) a xs := z2D ok (.inl e)
end
noncomputable def DGet (H : Hp) (a : Addr) (y : V) (r : Option V) : Prop :=
 (∃ kvs k, Rd H a (.dK kvs) /\ y = kV k /\ r = valV kvs k) \/ ∃ kvs k b, Rd H a (.dT kvs) /\ y = .ref b /\ H b = some (.tup (k.map kV)) /\ r = valV kvs k
noncomputable def DPut (H : Hp) (a : Addr) (y v : V) (H' : Hp) : Prop :=
 (∃ kvs k, H a = some (.dK kvs) /\ y = kV k /\ kvs.length < sizeLine /\ H' = upd H a (.dK (putK kvs k v))) \/
 ∃ kvs k b, H a = some (.dT kvs) /\ y = .ref b /\ H b = some (.tup (k.map kV)) /\ kvs.length < sizeLine /\ H' = upd H a (.dT (putK kvs k v))
theorem DPut.k {H : Hp} {a : Addr} {kvs : List (Key × V)} {k : Key} {v : V} (e : H a = some (.dK kvs)) (hl : kvs.length < sizeLine) : DPut H a (kV k) v (upd H a (.dK (putK kvs k v))) := .inl ⟨kvs, k, e, rfl, hl, rfl⟩
section
variable {X : Cx} {pins : List (Addr × Obj)} {σ : St} {H : Hp} {s : Shared} {a : Addr} {y v : V} {u r : Value} {o : Option V} {A : Around} {E : Value -> Shared -> Prop}
theorem Inv.big (I : Inv X pins σ H s) : sysModules < s.heap.objs.size := by
 have h : mainGlobals < s.heap.objs.size := (I.mod.glob.keeps I.bk).lt
 exact Nat.lt_trans (by decide) h
theorem q7B {Q : Value -> Shared -> Prop} (hu : A.units + 1 < cLine) (I : Inv X pins σ H s) (g : DGet H a y (some v)) (ry : RelV y u) (h : ∀ w' s', Inv X pins σ H s' -> RelV v w' -> Q w' s') :
  wpAny (model X.prog X.w) A (getItem (.ref a) u) Q E s := by
 rcases g with ⟨kvs, k, e, ey, l⟩ | ⟨kvs, k, b, e, ey, eb, l⟩
 ·subst ey
  obtain ⟨z, hd, vs, rel, dd⟩ := z1P I.hok e
  obtain ⟨w', hw, rw'⟩ := RelO.some_of (v := v) (o := valueAt vs k) (by rw [l]; exact rel.val k)
  exact wpAny_getItem_of (q9l ry) dd.mapOf hw (h w' _ (I.tok _) rw')
 ·subst ey
  cases (show u = Value.ref b from ry)
  obtain ⟨z, hd, xs, rel, dd⟩ := z2D I.hok e
  obtain ⟨w', hw, rw'⟩ := RelO.some_of (v := v) (o := (atKey xs k).map (·.2)) (by rw [l]; exact rel.val k)
  obtain ⟨p, hp, hp2⟩ := Option.map_eq_some_iff.mp hw
  refine wpAny_getItem_heap (tupleKind_room_in1 hu) (q8x I.hok eb) dd hp ?_
  rw [hp2]
  exact h w' _ (I.tok _) rw'
theorem q8g {h' : Heap} {t' : Nat} {ob : HO} (I : Inv X pins σ H s) (mu : Mut (H a)) (hs : Heap.SameBut a s.heap h') (he : ∃ q, h'.get? a = some q) (new : q0Y X.prog X.w (upd H a ob) h' a ob) :
  Inv X pins σ (upd H a ob) { s with heap := h', toks := t' } :=
 I.write (x := a) (e := a) mu (.inl rfl) (λ b q hb z => (hs.2 b hb).trans z) he new
theorem z4I {P : Program} {w : World} {H' : Hp} {h' : Heap} {kvs : List (Key × V)} {vs : List (Key × Value)} (z : kvs.length <= sizeLine) (hd : (a == sysModules) = false) (rel : KV kvs vs) (dd : h'.DictOf (q0H P w) a vs) :
  q0Y P w H' h' a (.dK kvs) := ⟨z, hd, vs, rel, dd⟩
theorem q8L {H' : Hp} {Q : Unit -> Shared -> Prop} (hu : A.units + 1 < cLine) (I : Inv X pins σ H s) (g : DPut H a y v H') (ry : RelV y u) (rv : RelV v r) (h : ∀ s', Inv X pins σ H' s' -> Q () s') :
  wpAny (model X.prog X.w) A (setItem (.ref a) u r) Q E s := by
 rcases g with ⟨kvs, k, e, ey, l, eH⟩ | ⟨kvs, k, b, e, ey, eb, l, eH⟩
 ·subst ey eH
  obtain ⟨z, hd, vs, rel, dd⟩ := z3N I.hok e
  have hz : vs.length <= sizeLine := by rw [← rel.length]; exact z
  have hl : (putK kvs k v).length <= sizeLine := by have := q3x kvs k v; omega
  refine wpAny_setItem_pairs (hsz := hz) (q9l ry) dd λ h' dd' hs => h _ ?_
  have he : ∃ q, h'.get? a = some q := let ⟨q, _, _, hq, _⟩ := dd'; ⟨q, hq⟩
  exact q8g I (by rw [e]; exact True.intro) hs he (z4I hl hd (rel.put k rv) dd')
 ·subst ey eH
  cases (show u = Value.ref b from ry)
  obtain ⟨z, hd, xs, rel, dd⟩ := z5D I.hok e
  have hz : xs.length <= sizeLine := by rw [← Paired.length rel]; exact z
  have hl : (putK kvs k v).length <= sizeLine := by have := q3x kvs k v; omega
  refine wpAny_setItem_heap (hsz := hz) (tupleKind_room_in1 hu) (q8x I.hok eb) dd λ h' dd' hs => h _ ?_
  obtain ⟨q, es, ep, hq, h2, h3, h4, _, h5⟩ := dd'
  refine q8g I (by rw [e]; exact True.intro) hs ⟨q, hq⟩ ⟨hl, hd, _, (rel.put k eb rv).keeps λ c ys ec => ?_, q, es, ep, hq, h2, h3, h4, h5⟩
  rw [q0j (z6v ec e (λ z => nomatch z))]
  exact ec
end
section
variable {X : Cx} {pins : List (Addr × Obj)} {σ : St} {H : Hp} {s : Shared} {a : Addr} {kvs : List (Key × V)} {k : Key} {u : Value} {A : Around} {E : Value -> Shared -> Prop}
end
noncomputable def NoSl (i : Expr) : Prop := ∀ ov iv, subscripted i false ov iv = operate [ov, iv] (getItem ov iv)
theorem z2T {prog : Program} {w : World} {A : Around} {E : Value -> Shared -> Prop} {s : Shared} {env : Env} {value slice : Expr} {pos : Pos} {T id : String} {Q : Value -> Shared -> Prop}
  (hl : typeLookup (.type T) "__getitem__" = pure (some (.builtin id))) (hs : NoSl slice)
  (h : wpAny (model prog w) A (eval value env) (λ o s₁ => wpAny (model prog w) A (eval slice env) (λ i s₂ => s₂.TypeIs o T /\ wpAny (model prog w) A (getItem o i) Q E s₂) E s₁) E s) :
  wpAny (model prog w) A (eval (.Subscript value slice pos) env) Q E s := by
 refine Subscript_ (wpAny_mono h (λ o s₁ h₁ => wpAny_mono h₁ (λ i s₂ h₂ => ?_) λ _ _ x => x) λ _ _ x => x)
 obtain ⟨hT, h₂⟩ := h₂
 unfold subscriptTail
 refine wpAny_bind ?_
 rw [getitemInPython_of_ne hT.not_modules]
 refine wpAny_bind (wpAny_specialOf hT hl ?_)
 have fin : wpAny (model prog w) A (subscripted slice false o i) (λ r s₃ => wpAny (model prog w) A (letTemporaryGo value o r >>= λ _ => pure r) Q E s₃) E s₂ := by
  rw [hs o i]
  exact wpAny_operating (wpAny_mono h₂ (λ r s₃ h₃ => wpAny_bind (wpAny_letTemporaryGo (wpAny_pure h₃))) λ _ _ x => x)
 first
  | exact wpAny_pure (wpAny_bind fin)
  | exact wpAny_bind (wpAny_pure (wpAny_bind fin))
  | exact wpAny_bind fin
theorem q5w {X : Cx} {pins : List (Addr × Obj)} {σ : St} {H : Hp} {s : Shared} {a : Addr} {y : V} {o : Option V} (I : Inv X pins σ H s) (g : DGet H a y o) : s.TypeIs (.ref a) "dict" := by
 rcases g with ⟨kvs, k, e, _, _⟩ | ⟨kvs, k, b, e, _, _, _⟩
 ·obtain ⟨_, _, vs, _, dd⟩ := z1P I.hok e
  exact dd.typeIs
 ·obtain ⟨_, _, xs, _, dd⟩ := z2D I.hok e
  exact dd.typeIs
noncomputable def z5G (td ty : TE) : TE := λ σ H Q => td σ H λ x H1 => ty σ H1 λ y H2 => ∃ a v, x = .ref a /\ DGet H2 a y (some v) /\ Q v H2
noncomputable def z6d (td ty tv : TE) : TS := λ D σ H => tv σ H λ v H1 => td σ H1 λ x H2 => ty σ H2 λ y H3 => ∃ a H4, x = .ref a /\ DPut H3 a y v H4 /\ D.nx σ H4
section
variable {X : Cx} {o i e value : Expr} {pos pos' tpos : Pos} {td ty tv : TE}
theorem z1t (hu : X.A.units + 1 < cLine) (ho : PE X o td) (hi : PE X i ty) (hs : NoSl i) : PE X (.Subscript o i pos) (z5G td ty) := by
 intro pins s σ H Q I h
 refine z2T PySem.F.slot_dict_getitem.lookup hs (thn (ho pins s σ H _ I h) λ u s1 ⟨x, H1, I1, rx, q1⟩ => thn (hi pins s1 σ H1 _ I1 q1) λ iv s2 ⟨y, H2, I2, ry, a, v, ex, g, q2⟩ => ?_)
 subst ex
 obtain rfl : u = Value.ref a := rx
 exact ⟨q5w I2 g, q7B hu I2 g ry λ w' s3 I3 rw' => ⟨v, H2, I3, rw', q2⟩⟩
theorem z2b (hu : X.A.units + 1 < cLine) (ho : PE X o td) (hi : PE X i ty) (hv : PE X value tv) (hs : swapsWith value (some (.Subscript o i pos')) pos.line X.env = pure false) :
  PS X (.Assign [.Subscript o i pos'] value pos) (z6d td ty tv) := by
 intro pins s σ H D I h
 refine wpAny_Assign_Subscript (thn (hv pins s σ H _ I h) λ r s1 ⟨v, H1, I1, rv, q1⟩ => thn (ho pins s1 σ H1 _ I1 q1) λ u s2 ⟨x, H2, I2, rx, q2⟩ => thn (hi pins s2 σ H2 _ I2 q2) λ iv s3 ⟨y, H3, I3, ry, a, H4, ex, g, q3⟩ => ?_) hs
 subst ex
 obtain rfl : u = Value.ref a := rx
 exact q8L hu I3 g ry rv λ s4 I4 => ⟨σ, H4, I4, q3⟩
end
theorem q9r {P : Program} {w : World} {H : Hp} (h : Heap) (hb : sysModules < h.objs.size) : q0Y P w H (h.push { cls := .type "dict", data := .dict #[] }) h.objs.size (.dK []) :=
 ⟨Nat.zero_le _, beq_eq_false_iff_ne.mpr (Ne.symm (Nat.ne_of_lt hb)), [], .nil, Heap.DictOf.new h⟩
noncomputable def z3p : TE := λ _ H Q => ∀ p, H p = none -> Q (.ref p) (upd H p (.dK []))
section
variable {X : Cx} {pos : Pos}
theorem q9A : PE X (.Dict [] [] pos) z3p := λ pins s σ H Q I h =>
 wpAny_Dict_empty ⟨.ref s.heap.objs.size, _, I.laid (a := s.heap.objs.size) (o := .dK []) (t' := s.toks) (λ _ _ q => Heap.get?_push_of_some _ q) (Nat.le_refl _) (q9r s.heap I.big), rfl, h _ (I.hok.fresh (Nat.le_refl _))⟩
end
end L2
end
section
namespace L2
open PySem PySem.Spec PyProof.Rows
noncomputable def putL (L : List (Int × Int)) (k z : Int) : List (Int × Int) := if (L.any λ p => decide (p.1 = k)) = true then L.map (λ p => if p.1 = k then (p.1, z) else p) else L ++ [(k, z)]
theorem z2l (L : List (Int × Int)) (k z : Int) : putK (odK L) (.inl k) (.int z) = odK (putL L k z) := by
 have e : ((odK L).any λ kv => decide (kv.1 = .inl k)) = L.any λ p => decide (p.1 = k) := by
  unfold odK
  rw [List.any_map]
  congr 1
  funext p
  simp
 unfold putK putL
 rw [e]
 split
 ·unfold odK
  rw [List.map_map, List.map_map]
  apply List.map_congr_left
  intro p _
  simp only [Function.comp]
  by_cases h : p.1 = k
  ·rw [if_pos (by rw [h]), if_pos h]
  ·rw [if_neg (by intro z; exact h (Sum.inl.inj z)), if_neg h]
 ·unfold odK
  rw [List.map_append]
  rfl
theorem z2p (L : List (Int × Int)) (k z : Int) : putD (.i k) (.int z) (L.map λ p => .i p.1) (L.map λ p => .int p.2) = ((putL L k z).map (λ p => .i p.1), (putL L k z).map (λ p => .int p.2)) := by
 have e : (DKey.i k ∈ L.map λ p => DKey.i p.1) ↔ (L.any λ p => decide (p.1 = k)) = true := by
  rw [List.mem_map, List.any_eq_true]
  constructor
  ·rintro ⟨p, h1, h2⟩; exact ⟨p, h1, by rw [decide_eq_true_eq]; cases h2; rfl⟩
  ·rintro ⟨p, h1, h2⟩; exact ⟨p, h1, by rw [decide_eq_true_eq.mp h2]⟩
 unfold putD putL
 by_cases h : (L.any λ p => decide (p.1 = k)) = true
 ·rw [if_pos (e.mpr h), if_pos h, List.map_map, List.map_map]
  refine Prod.ext ?_ ?_
  ·apply List.map_congr_left
   intro p _
   show DKey.i p.1 = DKey.i (if p.1 = k then (p.1, z) else p).1
   split <;> rfl
  ·show List.map _ (List.zip _ _) = _
   rw [List.zip_map_left, List.zip_map_right]
   have : ∀ (L : List (Int × Int)), List.zip L L = L.map λ p => (p, p) := by
    intro L
    induction L with
    | nil => rfl
    | cons a r ih => rw [List.zip_cons_cons, ih]; rfl
   rw [this, List.map_map, List.map_map, List.map_map]
   apply List.map_congr_left
   intro p _
   show (if DKey.i p.1 = DKey.i k then DV.int z else DV.int p.2) = DV.int (if p.1 = k then (p.1, z) else p).2
   by_cases h : p.1 = k
   ·rw [if_pos (by rw [h]), if_pos h]
   ·rw [if_neg (by intro z; exact h (DKey.i.inj z)), if_neg h]
 ·rw [if_neg (λ z => h (e.mp z)), if_neg h, List.map_append, List.map_append]
  rfl
theorem z1M {D : Dm} {H : Hp} (L : List (Int × Int)) : RepL D H (L.map λ p => .int p.2) ((odK L).map (·.2)) := by
 have := q1n (D := D) (H := H) (L.map (·.2))
 rw [List.map_map, List.map_map] at this
 unfold odK
 rw [List.map_map]
 exact this
theorem z0Y (L : List (Int × Int)) : (odK L).map (λ p => dKey p.1) = L.map λ p => .i p.1 := by
 unfold odK
 rw [List.map_map]
 rfl
theorem z1i (L : List (Int × Int)) (k : Int) : valV (odK L) (.inl k) = (q3h (.i k) (L.map λ p => .i p.1) (L.map λ p => .int p.2)).map (λ d => match d with | .int v => V.int v | _ => .non) := by
 induction L with
 | nil => rfl
 | cons p r ih =>
  show valV ((.inl p.1, .int p.2) :: odK r) (.inl k) = (if DKey.i p.1 = .i k then some (DV.int p.2) else q3h (.i k) (r.map λ p => .i p.1) (r.map λ p => .int p.2)).map _
  by_cases h : p.1 = k
  ·rw [q2D (by rw [h]), if_pos (by rw [h])]; rfl
  ·rw [q2M (by intro z; exact h (Sum.inl.inj z)), if_neg (by intro z; exact h (DKey.i.inj z)), ih]
section
variable {D : Dm} {H H' : Hp} {σ : St} {δ : List Sv} {O W : List Addr} {i : Nat}
theorem RSt.growD {p : Addr} (R : RSt D H σ δ O W) (hp : H p = none) : RSt D (upd H p (.dK [])) σ δ O (p :: W) := by
 have s : Same H (upd H p (.dK [])) := q0h hp
 have old : Same (L2.wo (O ++ W) H) (L2.wo (O ++ (p :: W)) (upd H p (.dK []))) := λ b o e => by
  obtain ⟨hb, e⟩ := q0J e
  rw [q0n λ z => ?_]
  ·exact s b o e
  ·rcases List.mem_cons.mp (q1j.mp z) with z | z
   ·rw [z, hp] at e; cases e
   ·exact hb z
 refine ⟨λ j d h => ?_, λ j d h => ?_, R.inj, λ j d h => ?_, λ j d h => ?_, R.od.step (λ j d h => ⟨h, rfl⟩) (λ _ h _ => List.mem_cons_of_mem _ h) (λ a _ _ h => s _ _ h), R.len, ⟨λ a ha => ?_, Same.refl _, λ a ha => ?_, λ a ha => ?_⟩⟩
 ·obtain ⟨v, e1, e2⟩ := R.val j d h
  exact ⟨v, e1, e2.mono old⟩
 ·obtain ⟨a, ys, ds1, e0, e1, e2, e3, e4⟩ := R.own j d h
  exact ⟨a, ys, ds1, e0, e1, List.mem_cons_of_mem _ e2, s _ _ e3, e4.mono old⟩
 ·obtain ⟨⟨t, ts, p1, ys, ds1, es, e0, e1, e2, e3, e4, e5, e6, e7⟩, u⟩ := R.ot j d h
  exact ⟨⟨t, ts, p1, ys, ds1, es, e0, e1, old.tseq e2, List.mem_cons_of_mem _ e3, s _ _ e4, e5.mono old, e6.mono old, e7⟩, u⟩
 ·obtain ⟨⟨p1, L, e0, e1, e2, e3⟩, u, n⟩ := R.o2 j d h
  exact ⟨⟨p1, L, e0, e1, (e2.mono s).sub λ a _ ha => List.mem_cons_of_mem _ ha, e3⟩, u, n⟩
 ·rcases List.mem_cons.mp (q1j.mp ha) with z | z
  ·rw [z, q0m]; intro q; cases q
  ·intro q; exact R.hid.ot a z (s.free q)
 ·rcases List.mem_cons.mp ha with z | z
  ·exact ⟨_, by rw [z]; exact q0m, rfl⟩
  ·obtain ⟨ys, q, m⟩ := R.hid.wl a z; exact ⟨ys, s _ _ q, m⟩
 ·rcases List.mem_cons.mp ha with z | z
  ·intro q; exact R.hid.ot p (List.mem_append_left _ (by rw [← z]; exact q)) hp
  ·exact R.hid.dj a z
theorem RSt.setOd {p : Addr} {L : List (Int × Int)} (R : RSt D H σ δ O W) (hp : p ∈ W) (hH : H p = some (.dK (odK L))) (hno : noOt i δ = true) : RSt D H (σ.set i (some (.ref p))) (δ.set i (.od (odD L))) O W := by
 refine ⟨λ j d h => ?_, λ j d h => ?_, λ j k a d1 d2 q1 q2 e1 e2 => ?_, λ j d h => ?_, λ j d h => ?_, λ j d h => ?_, by rw [List.length_set, List.length_set]; exact R.len, R.hid⟩
 ·have hj := q0b h (by intro z; cases z)
  rw [List.getElem?_set_ne (Ne.symm hj)] at h ⊢
  exact R.val j d h
 ·have hj := q0b h (by intro z; cases z)
  rw [List.getElem?_set_ne (Ne.symm hj)] at h ⊢
  exact R.own j d h
 ·have n1 := q0b q1 (by intro z; cases z)
  have n2 := q0b q2 (by intro z; cases z)
  rw [List.getElem?_set_ne (Ne.symm n1)] at q1 e1
  rw [List.getElem?_set_ne (Ne.symm n2)] at q2 e2
  exact R.inj j k a d1 d2 q1 q2 e1 e2
 ·have hj := q0b h (by intro z; cases z)
  rw [List.getElem?_set_ne (Ne.symm hj)] at h
  exact absurd (q5T hno h) hj
 ·have hj := q0b h (by intro z; cases z)
  rw [List.getElem?_set_ne (Ne.symm hj)] at h
  exact absurd (q9e hno h) hj
 ·have hj : j = i := by
   by_cases hj : j = i
   ·exact hj
   ·rw [List.getElem?_set_ne (Ne.symm hj)] at h
    exact q8z hno h
  subst hj
  obtain ⟨hl, e⟩ := q2E h
  cases e
  refine ⟨⟨p, L, rfl, List.getElem?_set_self (by rw [R.len]; exact hl), hp, hH⟩, λ k d' q => ?_⟩
  by_cases hk : k = j
  ·exact hk
  ·rw [List.getElem?_set_ne (Ne.symm hk)] at q
   exact q8z hno q
theorem RSt.writeOd {p : Addr} {L L' : List (Int × Int)} {d : DV} (R : RSt D H σ δ O W) (hi : δ[i]? = some (.od d)) (ha : σ[i]? = some (some (.ref p))) (hp : p ∈ W) (hH : H p = some (.dK (odK L))) : RSt D (upd H p (.dK (odK L'))) σ (δ.set i (.od (odD L'))) O W := by
 have old : Same (L2.wo (O ++ W) H) (L2.wo (O ++ W) (upd H p (.dK (odK L')))) := λ b o e => by
  obtain ⟨hb, e⟩ := q0J e
  rw [q0n hb, q0j λ z => hb (by rw [z]; exact List.mem_append_right _ hp)]
  exact e
 have lne : ∀ {b : Addr} {ys : List V}, H b = some (.lst ys) -> b ≠ p := λ {b ys} h z => by rw [z, hH] at h; cases h
 refine ⟨λ j d h => ?_, λ j d h => ?_, λ j k a d1 d2 q1 q2 e1 e2 => ?_, λ j d h => ?_, λ j d h => ?_, λ j d h => ?_, by rw [List.length_set]; exact R.len, ⟨λ b hb q => ?_, Same.refl _, λ b hb => ?_, R.hid.dj⟩⟩
 ·have hj := q0b h (by intro z; cases z)
  rw [List.getElem?_set_ne (Ne.symm hj)] at h
  obtain ⟨v, q1, q2⟩ := R.val j d h
  exact ⟨v, q1, q2.mono old⟩
 ·have hj := q0b h (by intro z; cases z)
  rw [List.getElem?_set_ne (Ne.symm hj)] at h
  obtain ⟨b, ys, ds1, q0, q1, q2, q3, q4⟩ := R.own j d h
  exact ⟨b, ys, ds1, q0, q1, q2, by rw [q0j (lne q3)]; exact q3, q4.mono old⟩
 ·have n1 := q0b q1 (by intro z; cases z)
  have n2 := q0b q2 (by intro z; cases z)
  rw [List.getElem?_set_ne (Ne.symm n1)] at q1
  rw [List.getElem?_set_ne (Ne.symm n2)] at q2
  exact R.inj j k a d1 d2 q1 q2 e1 e2
 ·have hj := q0b h (by intro z; cases z)
  rw [List.getElem?_set_ne (Ne.symm hj)] at h
  obtain ⟨⟨t, ts, p1, ys, ds1, es, f0, f1, f2, f3, f4, f5, f6, f7⟩, u⟩ := R.ot j d h
  refine ⟨⟨t, ts, p1, ys, ds1, es, f0, f1, old.tseq f2, f3, by rw [q0j (lne f4)]; exact f4, f5.mono old, f6.mono old, λ k d2 q => ?_⟩, λ k d2 q => ?_⟩
  ·have hk := q0b q (by intro z; cases z)
   rw [List.getElem?_set_ne (Ne.symm hk)] at q
   exact f7 k d2 q
  ·have hk := q0b q (by intro z; cases z)
   rw [List.getElem?_set_ne (Ne.symm hk)] at q
   exact u k d2 q
 ·have hj := q0b h (by intro z; cases z)
  rw [List.getElem?_set_ne (Ne.symm hj)] at h
  obtain ⟨⟨p1, L1, f0, f1, f2, f3⟩, u, n⟩ := R.o2 j d h
  refine ⟨⟨p1, L1, f0, f1, f2.write λ z => ?_, λ k d2 b q q2 => ?_⟩, λ k d2 q => ?_, λ k d2 q => ?_⟩
  ·obtain ⟨_, ys, w⟩ := f2.dom z
   exact lne w rfl
  ·have hk := q0b q (by intro z; cases z)
   rw [List.getElem?_set_ne (Ne.symm hk)] at q
   exact f3 k d2 b q q2
  ·have hk := q0b q (by intro z; cases z)
   rw [List.getElem?_set_ne (Ne.symm hk)] at q
   exact u k d2 q
  ·have hk := q0b q (by intro z; cases z)
   rw [List.getElem?_set_ne (Ne.symm hk)] at q
   exact n k d2 q
 ·have hj : j = i := by
   by_cases hj : j = i
   ·exact hj
   ·rw [List.getElem?_set_ne (Ne.symm hj)] at h
    exact (R.od i _ hi).2 j _ h
  subst hj
  obtain ⟨hl, e⟩ := q2E h
  cases e
  refine ⟨⟨p, L', rfl, ha, hp, q0m⟩, λ k d' q => ?_⟩
  by_cases hk : k = j
  ·exact hk
  ·rw [List.getElem?_set_ne (Ne.symm hk)] at q
   exact (R.od j _ hi).2 k _ q
 ·by_cases hba : b = p
  ·rw [hba, q0m] at q; cases q
  ·rw [q0j hba] at q; exact R.hid.ot b hb q
 ·by_cases hba : b = p
  ·exact ⟨_, by rw [hba]; exact q0m, rfl⟩
  ·obtain ⟨ys, q, m⟩ := R.hid.wl b hb; exact ⟨ys, by rw [q0j hba]; exact q, m⟩
end
section
variable {X : Cx} {E : St -> XK} {δ : List Sv} {o : Out} {e ek ed ea : Expr} {pos pos' npos spos apos cpos : Pos} {ra rb rc : Option Re} {i : Nat} {x : Str} {re : Re}
theorem z2H (hN : X.N.Nodup) (hi : X.N[i]? = some x) (hx : Loc X.env.scope x) (hf : X.fn x = true \/ X.env.scope.names.lookup x = some .local) (h : (if noOt i δ then some (Out.nx (δ.set i (.od (.dct [] [])))) else none) = some o) : PS X (.Assign [.Name x npos] (.Dict [] [] pos') pos) (dS X.D E δ o) := by
 split at h
 ·rename_i hno
  cases h
  refine (q8h hN hi hx q9A rfl hf).weak λ Dn σ H ⟨H0, O, W, R, fr, fo, sm, k⟩ => λ p hp => ?_
  have R1 : RSt X.D (upd H p (.dK [])) (σ.set i (some (.ref p))) (δ.set i (.od (odD []))) O (p :: W) := (R.growD hp).setOd (L := []) (List.mem_cons_self ..) q0m hno
  exact k _ _ _ R1 (λ a ha => by
   rcases List.mem_cons.mp ha with z | z
   ·rw [z]; exact sm.free hp
   ·exact fr a z) (sm.trans (q0h hp))
 ·cases h
theorem q9E (hu : X.A.units + 1 < cLine) (hv : PE X (.Name x npos) (tVar i)) (he : ∀ q, ra = some q -> PE X e (dE X.D E δ q)) (hk : ∀ q, rb = some q -> PE X ek (dE X.D E δ q)) (hc : q4g e = false)
  (h : (match δ[i]? with
   | some (.od (.dct ks vs)) => Re.thnS δ ra λ d _ => Re.thnS δ rb λ k _ => (match k, d with
    | .int k, .int z => if ks.length < mostLen then some (Out.nx (δ.set i (.od (.dct (putD (.i k) (.int z) ks vs).1 (putD (.i k) (.int z) ks vs).2)))) else none
    | _, _ => none)
   | _ => none) = some o) : PS X (.Assign [.Subscript (.Name x npos) ek spos] e pos) (dS X.D E δ o) := by
 split at h
 ·rename_i ks vs hi
  have C := λ t t' (hA : PE X e t) (hB : PE X ek t') => z2b (pos := pos) (pos' := spos) hu hv hB hA (q4h hc)
  cases hra : ra with
  | none => rw [hra] at h; cases h
  | some q =>
   rw [hra] at h
   have A := he q hra
   cases q with
   | ex c =>
    cases h
    exact (C _ _ A q1u).weak λ Dn σ H ⟨H0, O, W, R, fr, fo, sm, k⟩ => ⟨O, W, R, q4S (Q := λ _ _ => False) R fr sm k⟩
   | ok d cl =>
    cases hrb : rb with
    | none => rw [hrb] at h; cases h
    | some q2 =>
     rw [hrb] at h
     have B := hk q2 hrb
     cases q2 with
     | ex c =>
      cases h
      refine (C _ _ A B).weak λ Dn σ H ⟨H0, O, W, R, fr, fo, sm, k⟩ => ⟨O, W, R, λ v H1 s1 g => ?_⟩
      obtain ⟨⟨p, L, e0, e1, e2, e3⟩, u⟩ := R.od i _ hi
      exact ⟨.ref p, e1, O, W, R.mono s1, q4S (Q := λ _ _ => False) (R.mono s1) fr (sm.trans s1) k⟩
     | ok dk ck =>
      have h' : (match (generalizing := false) dk, d with
       | .int k, .int z => if ks.length < mostLen then some (Out.nx (δ.set i (.od (.dct (putD (.i k) (.int z) ks vs).1 (putD (.i k) (.int z) ks vs).2)))) else none
       | _, _ => none) = some o := h
      split at h'
      ·rename_i k0 z
       split at h'
       ·rename_i hl
        cases h'
        refine (C _ _ A B).weak λ Dn σ H ⟨H0, O, W, R, fr, fo, sm, k⟩ => ⟨O, W, R, λ v H1 s1 g => ?_⟩
        obtain ⟨⟨p, L, e0, e1, e2, e3⟩, u⟩ := R.od i _ hi
        refine ⟨.ref p, e1, O, W, R.mono s1, λ v2 H2 s2 g2 => ?_⟩
        have hv1 := g.int (R.hid.mono s1)
        have hv2 := g2.int ((R.mono s1).hid.mono s2)
        subst hv1 hv2
        have e3' := s2 _ _ (s1 _ _ e3)
        have e0' : DV.dct ks vs = .dct (L.map λ p => .i p.1) (L.map λ p => .int p.2) := e0
        cases e0'
        rw [List.length_map] at hl
        refine ⟨p, _, rfl, DPut.k (k := .inl k0) e3' (by unfold odK; rw [List.length_map]; exact Nat.lt_of_lt_of_le hl (by decide)), ?_⟩
        rw [z2l]
        rw [z2p] at k
        exact k σ _ W (((R.mono s1).mono s2).writeOd hi e1 e2 e3') fr (q2c ((sm.trans s1).trans s2) (fr p e2))
       ·cases h'
      ·cases h'
 ·cases h
theorem z3Q (hv : PE X (.Name x npos) (tVar i)) : PE X (.Name x npos) (λ σ H Q => ∃ a kvs, σ[i]? = some (some (.ref a)) /\ H a = some (.dK kvs) /\ ∀ ob, Q (.ref a) (upd H a (.frz ob (.dK kvs)))) := by
 intro pins s σ H Q I h
 obtain ⟨a, kvs, e1, e2, q⟩ := h
 refine thn (hv pins s σ H (λ v H1 => v = .ref a /\ H1 = H) I ⟨_, e1, rfl, rfl⟩) λ u s1 ⟨v, H1, I1, r1, q1, q2⟩ => ?_
 subst q1 q2
 obtain ⟨z1, z2, vs, z3, z4⟩ := (show q0Y X.prog X.w H1 s1.heap a (.dK kvs) from I1.hok _ _ e2)
 obtain ⟨ob, es, ep, z5, z6⟩ := id z4
 exact ⟨.ref a, upd H1 a (.frz ob (.dK kvs)), I1.write (x := a) (e := a) (t' := s1.toks) (by rw [e2]; trivial) (.inl rfl) (λ b u hb e => e) ⟨ob, z5⟩ ⟨z5, z1, z2, vs, z3, z4⟩, r1, q ob⟩
theorem q9n (hv : PE X (.Name x npos) (tVar i)) (h : (match δ[i]? with
   | some (.od d) => some (Out.rt d false)
   | _ => none) = some o) : PS X (.Return (some (.Name x npos)) pos) (dS X.D E δ o) := by
 split at h
 ·rename_i d hi
  cases h
  refine (q6c (z3Q hv)).weak λ Dn σ H ⟨H0, O, W, R, fr, fo, sm, k⟩ => ?_
  obtain ⟨⟨p, L, e0, e1, e2, e3⟩, u⟩ := R.od i _ hi
  subst e0
  refine ⟨p, _, e1, e3, λ ob => k _ _ (q2c sm (fr p e2)) (q2r.mpr ⟨p, ob, odK L, rfl, by rw [q0n (R.hid.dj p e2)]; exact q0m, z0Y L, z1M L⟩ : Rep X.D (L2.wo O _) (odD L) _)⟩
 ·cases h
noncomputable def z5R : V -> List V -> Hp -> VK -> Prop := λ x vs H Q => ∃ a kvs k z, x = .ref a /\ vs = [.int k, z] /\ H a = some (.dK kvs) /\ Q ((valV kvs (.inl k)).getD z) H
theorem z2Y : MtM X "dict.get" z5R := by
 intro pins s σ H x vs v us Q I rx rv h
 obtain ⟨a, kvs, k, z, rfl, rfl, hH, q⟩ := h
 cases rx
 obtain ⟨u1, u2, rfl, r1, r2⟩ := q7i rv
 obtain ⟨t, rfl⟩ := id r1
 obtain ⟨z1, z2, ws, rel, dd⟩ := z3N I.hok hH
 refine call_meetsIn PySem.F.slot_dict_get dd.typeIs PySem.F.entry_dict_get (PySem.F.args_dict_get_3 _ _ _) (meets_dict_get_default (q0H X.prog X.w) a (q9l (k := .inl k) r1) z2 u2) ⟨_, dd.mapOf, ?_⟩
 exact ⟨_, H, I.tok _, (rel.val (.inl k)).getD r2, q⟩
theorem z2P (hv : PE X (.Name x npos) (tVar i)) (hk : ∀ q, ra = some q -> PE X ek (dE X.D E δ q)) (he : ∀ q, rb = some q -> PE X ed (dE X.D E δ q)) (hs1 : q0k ek = false) (hs2 : q0k ed = false) (hline : (apos.endLine == cpos.line) = true)
  (h : (match δ[i]? with
   | some (.od y) => Re.thn ra λ k _ => Re.thn rb λ z _ => dgtD y k z
   | _ => none) = some re) : PE X (.Call (.Attribute (.Name x npos) "get" apos) [ek, ed] [] cpos) (dE X.D E δ re) := by
 split at h
 ·rename_i y hi
  have C := λ t t' (hA : PE X ek t) (hB : PE X ed t') => z4J (o := .Name x npos) (apos := apos) (cpos := cpos) PySem.F.plainAttrs_dict PySem.F.slot_dict_get PySem.F.type_dict_get z2Y hv (q0V hA (q0V hB q3b (q0i hs2)) (q0i hs1)) rfl (by rw [q0i hs1, q0i hs2]; rfl) hline (q0i hs1) (by rw [q0i hs2]; rfl)
  have ty : ∀ {H : Hp} {σ : St} {O W : List Addr}, RSt X.D H σ δ O W -> ∃ p L, y = odD L /\ σ[i]? = some (some (.ref p)) /\ p ∈ W /\ H p = some (.dK (odK L)) /\ tyV X.K "dict" (.ref p) H := λ R => by
   obtain ⟨⟨p, L, e0, e1, e2, e3⟩, u⟩ := R.od i _ hi
   exact ⟨p, L, e0, e1, e2, e3, .inr (.inr (.inl ⟨rfl, .inl ⟨_, e3⟩⟩))⟩
  cases hra : ra with
  | none => rw [hra] at h; cases h
  | some q =>
   rw [hra] at h
   have A := hk q hra
   cases q with
   | ex c =>
    cases h
    exact (C _ _ A q1u).weak λ σ H Q ⟨O, W, R, p⟩ => by
     obtain ⟨pp, L, e0, e1, e2, e3, e4⟩ := ty R
     exact ⟨.ref pp, e1, e4, O, W, R, p⟩
   | ok dk ck =>
    cases hrb : rb with
    | none => rw [hrb] at h; cases h
    | some q2 =>
     rw [hrb] at h
     have B := he q2 hrb
     cases q2 with
     | ex c =>
      cases h
      exact (C _ _ A B).weak λ σ H Q ⟨O, W, R, p⟩ => by
       obtain ⟨pp, L, e0, e1, e2, e3, e4⟩ := ty R
       exact ⟨.ref pp, e1, e4, O, W, R, λ v H1 s1 g => ⟨O, W, R.mono s1, λ H' C m s => p H' C m (s1.trans s)⟩⟩
     | ok dz cz =>
      have h' : dgtD y dk dz = some re := h
      refine (C _ _ A B).weak λ σ H Q ⟨O, W, R, p⟩ => ?_
      obtain ⟨pp, L, e0, e1, e2, e3, e4⟩ := ty R
      subst e0
      unfold dgtD odD at h'
      split at h'
      ·rename_i ks vs k0 z0 q0
       cases q0
       split at h'
       ·rename_i v0 hv0
        cases h'
        refine ⟨.ref pp, e1, e4, O, W, R, λ v H1 s1 g => ⟨O, W, R.mono s1, λ v2 H2 s2 g2 => ?_⟩⟩
        have hv1 := g.int (R.hid.mono s1)
        have hv2 := g2.int ((R.mono s1).hid.mono s2)
        subst hv1 hv2
        refine ⟨pp, odK L, k0, .int z0, rfl, rfl, s2 _ _ (s1 _ _ e3), p _ H2 (s1.trans s2) ?_⟩
        have e : (valV (odK L) (.inl k0)).getD (.int z0) = .int v0 := by
         rw [z1i]
         cases hz : q3h (.i k0) (L.map λ p => .i p.1) (L.map λ p => .int p.2) with
         | none => rw [hz] at hv0; cases hv0; rfl
         | some d => rw [hz] at hv0; cases hv0; rfl
        rw [e]
        exact q0y
       ·cases h'
      ·cases h'
 ·cases h
theorem z2A (h : q1S ek = false) : NoSl ek := λ ov iv => by cases ek <;> first | rfl | cases h
theorem q6v {D : Dm} {H : Hp} {k : Int} {v : Int} : ∀ {kvs : List (Key × V)} {vs : List DV}, RepL D H vs (kvs.map (·.2)) -> q3h (.i k) (kvs.map λ p => dKey p.1) vs = some (.int v) -> valV kvs (.inl k) = some (.int v)
 | [], vs, r, h => by cases vs <;> cases h
 | (k1, v1) :: kvs, [], r, h => by cases h
 | (k1, v1) :: kvs, d :: vs, r, h => by
  obtain ⟨w, ws, e1, e2, e3⟩ := q0e.mp r
  cases e1
  have h' : (if dKey k1 = .i k then some d else q3h (.i k) (kvs.map λ p => dKey p.1) vs) = some (.int v) := h
  by_cases hk : k1 = .inl k
  ·subst hk
   rw [if_pos (show dKey (.inl k) = .i k from rfl)] at h'
   cases h'
   rw [q2D rfl]
   show some v1 = _
   rw [show v1 = .int v from q0A.mp e2]
  ·rw [if_neg (λ z => hk (by cases k1 with | inl j => cases z; rfl | inr j => cases z))] at h'
   rw [q2M hk]
   exact q6v e3 h'
theorem z1r (hu : X.A.units + 1 < cLine) (ha : ∀ q, ra = some q -> PE X ea (dE X.D E δ q)) (hk : ∀ q, rb = some q -> PE X ek (dE X.D E δ q)) (hs : q1S ek = false)
  (h : (Re.thn ra λ x _ => Re.thn rb λ y _ => dixD x y) = some re) : PE X (.Subscript ea ek pos) (dE X.D E δ re) := by
 have C := λ t t' (hA : PE X ea t) (hB : PE X ek t') => z1t (pos := pos) hu hA hB (z2A hs)
 cases hra : ra with
 | none => rw [hra] at h; cases h
 | some q =>
  rw [hra] at h
  have A := ha q hra
  cases q with
  | ex c => cases h; exact (C _ _ A q1u).weak λ σ H Q ⟨O, W, R, p⟩ => ⟨O, W, R, p⟩
  | ok dx cx =>
   cases hrb : rb with
   | none => rw [hrb] at h; cases h
   | some q2 =>
    rw [hrb] at h
    have B := hk q2 hrb
    cases q2 with
    | ex c => cases h; exact (C _ _ A B).weak λ σ H Q ⟨O, W, R, p⟩ => ⟨O, W, R, λ v H1 s1 g => ⟨O, W, R.mono s1, λ H' C m s => p H' C m (s1.trans s)⟩⟩
    | ok dk ck =>
     have h' : dixD dx dk = some re := h
     unfold dixD at h'
     split at h'
     ·rename_i ks vs k0
      split at h'
      ·rename_i v0 hv0
       cases h'
       refine (C _ _ A B).weak λ σ H Q ⟨O, W, R, p⟩ => ⟨O, W, R, λ v H1 s1 g => ⟨O, W, R.mono s1, λ v2 H2 s2 g2 => ?_⟩⟩
       have hv2 := g2.int ((R.mono s1).hid.mono s2)
       subst hv2
       obtain ⟨a, ob, kvs, e1, e2, e3, e4⟩ := q2r.mp (g.all (R.hid.mono s1))
       subst e3
       exact ⟨a, .int v0, e1, .inl ⟨kvs, .inl k0, .inr ⟨ob, s2 _ _ e2⟩, rfl, (q6v e4 hv0).symm⟩, p _ H2 (s1.trans s2) q0y⟩
      ·cases h'
     ·cases h'
end
end L2
end
section
namespace L2
open PySem PySem.Spec PyProof.Rows
noncomputable def ItI (a : Addr) (ob : Obj) (kvs : List (Key × V)) : It :=
  ⟨λ i H => H a = some (.frz ob (.dK kvs)) /\ ∃ k v, kvs[i]? = some (.inl k, v),
   λ i H x H' => ∃ p k v, x = .ref p /\ H p = none /\ kvs[i]? = some (.inl k, v) /\ H' = upd H p (.tup [.int k, v]),
   λ i H => H a = some (.frz ob (.dK kvs)) /\ kvs.length <= i⟩
theorem z3Y {kvs : List (Key × V)} {vs : List (Key × Value)} (r : KV kvs vs) : ∀ {i : Nat} {k : Key} {v : V}, kvs[i]? = some (k, v) -> ∃ u, vs[i]? = some (k, u) /\ RelV v u := by
 induction r with
 | nil => intro i k v h; cases h
 | cons p t ih =>
  intro i k v h
  cases i with
  | zero =>
   obtain ⟨p1, p2⟩ := p
   rename_i a b _ _
   obtain ⟨a1, a2⟩ := a
   obtain ⟨b1, b2⟩ := b
   cases h
   have p1' : k = b1 := p1
   subst p1'
   exact ⟨b2, rfl, p2⟩
  | succ i => exact ih h
theorem z2u {P : Program} {w : World} {i : Int} {u : Value} (h : (q0H P w).is (.inl i) u = true) : ∃ t, u = .int i t := by
 have h' : Value.isInt i u = true := h
 cases u <;> simp [Value.isInt] at h'
 subst h'
 exact ⟨_, rfl⟩
theorem q7O {X : Cx} {pins : List (Addr × Obj)} {σ : St} {H : Hp} {s : Shared} {a : Addr} {ob : Obj} {kvs : List (Key × V)} {es : Array DictEntry} {ep : Nat} (I : Inv X pins σ H s) (h : H a = some (.frz ob (.dK kvs))) (hd : ob.data = .dict es ep) :
  (a == sysModules) = false /\ ∃ vs, KV kvs vs /\ s.heap.DictAt (q0H X.prog X.w) a vs ep := by
 obtain ⟨z0, z1, z2, vs, z3, ⟨o, es', ep', y1, y2, y3, y4⟩⟩ := (show q0Y X.prog X.w H s.heap a (.frz ob (.dK kvs)) from I.hok _ _ h)
 rw [z0] at y1
 cases y1
 rw [hd] at y3
 cases y3
 exact ⟨z2, vs, z3, _, _, z0, y2, hd, y4⟩
theorem q7d {P : Program} {w : World} {K : PySem.W.Frag} {elts : List Expr} {k : Nat} {pos : Pos} {it a : Addr} {ob : Obj} {kvs : List (Key × V)} {es : Array DictEntry} {ep : Nat} (hd : ob.data = .dict es ep) :
  Turn P w K (.Tuple elts k pos) (ItI a ob kvs) [it] it (λ i h => ∃ ok ov, IsItemIter h it a i kvs.length ep ok ov) where
 mem := by simp
 obj := λ i h st b hb => by
  obtain ⟨ok, ov, hn⟩ := st
  rw [List.mem_singleton] at hb
  subst hb
  exact ⟨_, hn, λ v q => by cases q⟩
 keep := λ i h h' st q => by
  obtain ⟨ok, ov, hn⟩ := st
  exact ⟨ok, ov, q it (by simp) _ hn⟩
 item := by
  intro X hP hw hK hc i pins s σ H E I hf st hg
  subst hP hw hK
  obtain ⟨ok, ov, hn⟩ := st
  obtain ⟨hH, k0, v0, hx⟩ := hg
  obtain ⟨z2, vs, z3, dd⟩ := q7O I hH hd
  obtain ⟨u, hu, ru⟩ := z3Y z3 hx
  have hl : kvs.length = vs.length := z3.length
  rw [hl] at hn
  refine wpAny_pyNext_items_item hn dd hu λ key h' b1 b2 b3 b4 b5 => ⟨_, rfl, ?_⟩
  obtain ⟨tk, rfl⟩ := z2u b1
  refine wpAny_letOwnedTupleGo_items b2 λ h2 hn2 t2 => ?_
  have hsz : s.heap.objs.size ≠ it := Nat.ne_of_gt (Heap.lt_size hn)
  have keep : ∀ b o, b ∉ [it] -> s.heap.get? b = some o -> h2.get? b = some o := λ b o hb e => t2.extBut _ _ (λ q => hb (by simp [q])) (b5 b o (λ q => hb (by simp [q])) e)
  have I1 : Inv X pins σ H { s with heap := h2 } := I.turnedL (t' := s.toks) keep hf
  have hn' : H s.heap.objs.size = none := I.hok.fresh (Nat.le_refl _)
  have f5 := I.fpOk (Nat.le_refl _) hn'
  have new : h2.get? s.heap.objs.size = some { cls := .type "tuple", data := .seq #[.int k0 tk, u] } := t2.extBut _ _ hsz b3
  have h0 : X.s₀.heap.get? s.heap.objs.size = none := Heap.get?_none_of_le I.sz
  have I2 : Inv X pins σ (upd H s.heap.objs.size (.tup [.int k0, v0])) { s with heap := h2 } := I1.track hn' h0 f5.2.1 (λ n c e => f5.2.2.2.2.1 n c e) (λ q hq => f5.2.2.2.2.2 q hq)
   ⟨by show (2 : Nat) <= sizeLine; decide, [.int k0 tk, u], .cons ⟨_, rfl⟩ (.cons ru .nil), _, new, ⟨rfl, rfl⟩, _, rfl⟩
  refine ⟨.ref s.heap.objs.size, _, I2, rfl, ⟨_, k0, v0, rfl, hn', hx, rfl⟩, ⟨_, _, by rw [hl]; exact hn2⟩, λ b hb => ?_⟩
  rw [List.mem_singleton] at hb
  subst hb
  rw [q0j (Ne.symm hsz)]
  exact (hf b (by simp)).1
 done := by
  intro X hP hw hK hc i pins s σ H E I hf st hg
  subst hP hw hK
  obtain ⟨ok, ov, hn⟩ := st
  obtain ⟨hH, hx⟩ := hg
  obtain ⟨z2, vs, z3, dd⟩ := q7O I hH hd
  have hl : kvs.length = vs.length := z3.length
  rw [hl] at hn hx
  exact wpAny_pyNext_items_end (I.ok.hd hc) hn dd (List.getElem?_eq_none hx) λ h' a => ⟨rfl, I.turnedL (t' := s.toks) (ch := [it]) (λ b o hb e => a b o (λ q => hb (by simp [q])) e) hf⟩
 self := λ _ _ _ _ _ st h => by
  obtain ⟨ok, ov, hn⟩ := st
  exact PySem.W.kcp_self hn h
theorem Wk.items {D : Dm} {L : List (Int × Int)} {Oc Oi : List Addr} {H1 : Hp} {a : Addr} {ob : Obj} {kvs : List (Key × V)} (h : L2.wo Oc H1 a = some (.frz ob (.dK kvs))) (e : kvs = odK L) : Wk D (ItI a ob kvs) (L.map λ p => .tup [.int p.1, .int p.2]) Oc Oi H1 := by
 subst e
 have hl : (odK L).length = L.length := by unfold odK; rw [List.length_map]
 have at' : ∀ (i : Nat), (odK L)[i]? = (L[i]?).map λ p => (Sum.inl p.1, V.int p.2) := λ i => by unfold odK; rw [List.getElem?_map]
 refine ⟨λ i H s hi => ?_, λ i H x H' y => ?_, λ i H x H' d O2 s s' y e ho => ?_, λ H s => ?_⟩
 ·rw [List.length_map] at hi
  exact ⟨q0F _ _ (s _ _ h), L[i].1, .int L[i].2, by rw [at', List.getElem?_eq_getElem hi]; rfl⟩
 ·obtain ⟨p, k, v, _, hp, _, e⟩ := y
  rw [e]; exact q0h hp
 ·obtain ⟨p, k, v, ex, hp, y1, eH⟩ := y
  rw [List.getElem?_map] at e
  rw [at'] at y1
  cases hz : L[i]? with
  | none => rw [hz] at e; cases e
  | some q =>
   rw [hz] at e y1
   cases e
   cases y1
   have hpo : p ∉ O2 := λ z => (ho p z).1 hp
   subst eH
   exact q0z.mpr ⟨p, _, ex, SqT.of (by rw [q0n hpo]; exact q0m), q0e.mpr ⟨_, _, rfl, q0A.mpr rfl, RepL.one (q0A.mpr rfl)⟩⟩
 ·exact ⟨q0F _ _ (s _ _ h), by rw [List.length_map, hl]; exact Nat.le_refl _⟩
section
variable {X : Cx} {E : St -> XK} {δ : List Sv} {e : Expr} {elts : List Expr} {k : Nat} {tpos apos pos : Pos} {ra : Option Re} {ri : Ri}
theorem z0g {te : TE} (he : PE X e te) (hbase : attributeBase e "items" X.env (eval e X.env) = eval e X.env) (hline : (apos.endLine == pos.line) = true) :
  PI X (.Tuple elts k tpos) (.Call (.Attribute e "items" apos) [] [] pos) (λ σ H R => te σ H λ x H1 => ∃ a ob kvs, x = .ref a /\ H1 a = some (.frz ob (.dK kvs)) /\ R (ItI a ob kvs) H1) := by
 intro pins s σ H R I h
 refine wpAny_Call_method0_late hbase hline (thn (he pins s σ H _ I h) λ v s1 ⟨x, H1, I1, r1, a, ob, kvs, e1, e2, q⟩ => ?_)
 subst e1
 cases r1
 obtain ⟨z0, z1, z2, vs0, z3, z4⟩ := (show q0Y X.prog X.w H1 s1.heap a (.frz ob (.dK kvs)) from I1.hok _ _ e2)
 obtain ⟨o', es, ep, y1, y2, y3, y4⟩ := id z4
 have yo : o' = ob := by rw [z0] at y1; cases y1; rfl
 subst yo
 refine ⟨"dict", "dict.items", PySem.F.plainAttrs_dict, PySem.F.slot_dict_items, PySem.F.type_dict_items, z4.typeIs, z4.mapOf.noDict, Calls.callWith_builtin rfl (PySem.evalArgs_none ?_)⟩
 refine call_meetsIn PySem.F.slot_dict_items z4.typeIs PySem.F.entry_dict_items (PySem.F.args_dict_items_1 _) (meets_dict_items (q0H X.prog X.w) a z2) ⟨⟨vs0, z4⟩, ?_⟩
 have k1 : ∀ b o, s1.heap.get? b = some o -> (s1.heap.push { cls := .type "dict_items", data := .fields #[.ref a] }).get? b = some o := λ b o e => Heap.get?_push_of_some _ e
 have I2 : Inv X pins σ H1 { s1 with heap := s1.heap.push { cls := .type "dict_items", data := .fields #[.ref a] } } := I1.kept (t' := s1.toks) k1
 obtain ⟨_, vs, w3, dd⟩ := q7O I2 e2 y3
 refine wpAny_pyIter_items (v := s1.heap.objs.size) ⟨_, Heap.get?_push_size _ rfl, rfl, rfl⟩ dd ?_
 have hl : kvs.length = vs.length := w3.length
 rw [← hl]
 refine ⟨_, [_], _, ItI a o' kvs, H1, rfl, I2.kept (t' := s1.toks) λ b o e => Heap.get?_push_of_some _ e, q7d (elts := elts) (k := k) (pos := tpos) y3, ⟨.none, .none, Heap.get?_push_size _ rfl⟩, λ c hc => ?_, q⟩
 rw [List.mem_singleton] at hc
 subst hc
 exact I2.fpOk (Nat.le_refl _) (I2.hok.fresh (Nat.le_refl _))
theorem z0r : ∀ {ks : List DKey} {vs : List DV} {L : List (Int × Int)}, kvs? ks vs = some L -> ∀ {D : Dm} {H : Hp} {kv : List (Key × V)}, kv.map (λ p => dKey p.1) = ks -> RepL D H vs (kv.map (·.2)) -> kv = odK L
 | [], [], L, h, D, H, kv, e, r => by cases h; cases kv with | nil => rfl | cons _ _ => cases e
 | [], _ :: _, L, h, D, H, kv, e, r => by cases h
 | .i k :: ks, .int v :: vs, L, h, D, H, kv, e, r => by
  have h' : (kvs? ks vs).map ((k, v) :: ·) = some L := h
  obtain ⟨L', h1, h2⟩ := Option.map_eq_some_iff.mp h'
  subst h2
  cases kv with
  | nil => cases e
  | cons p kv =>
   obtain ⟨k1, v1⟩ := p
   obtain ⟨w, ws, e1, e2, e3⟩ := q0e.mp r
   cases e1
   have e' := List.cons.inj e
   have hk : k1 = .inl k := by
    cases k1 with
    | inl j => cases e'.1; rfl
    | inr j => cases e'.1
   rw [z0r h1 e'.2 e3, hk, show v1 = .int v from q0A.mp e2]
   rfl
 | .i _ :: _, [], L, h, D, H, kv, e, r => by cases h
 | .s _ :: _, _, L, h, D, H, kv, e, r => by cases h
 | .t _ :: _, _, L, h, D, H, kv, e, r => by cases h
 | .i _ :: _, .non :: _, L, h, D, H, kv, e, r => by cases h
 | .i _ :: _, .bl _ :: _, L, h, D, H, kv, e, r => by cases h
 | .i _ :: _, .str _ :: _, L, h, D, H, kv, e, r => by cases h
 | .i _ :: _, .tup _ :: _, L, h, D, H, kv, e, r => by cases h
 | .i _ :: _, .lst _ :: _, L, h, D, H, kv, e, r => by cases h
 | .i _ :: _, .dct _ _ :: _, L, h, D, H, kv, e, r => by cases h
 | .i _ :: _, .exc _ :: _, L, h, D, H, kv, e, r => by cases h
 | .i _ :: _, .fn _ :: _, L, h, D, H, kv, e, r => by cases h
 | .i _ :: _, .scr _ :: _, L, h, D, H, kv, e, r => by cases h
theorem z2G (hbase : attributeBase e "items" X.env (eval e X.env) = eval e X.env) (hline : (apos.endLine == pos.line) = true) (ha : ∀ q, ra = some q -> PE X e (dE X.D E δ q))
  (h : q0N (Re.thn ra λ x c => itmD x c) = some ri) : PI X (.Tuple elts k tpos) (.Call (.Attribute e "items" apos) [] [] pos) (dI X.D E δ ri) := by
 have C := λ ta (hA : PE X e ta) => z0g (elts := elts) (k := k) (tpos := tpos) (apos := apos) (pos := pos) hA hbase hline
 cases hra : ra with
 | none => rw [hra] at h; cases h
 | some q =>
  rw [hra] at h
  have A := ha q hra
  cases q with
  | ex c => cases h; exact (C _ A).weak λ σ H R' ⟨O, W, R, p⟩ => ⟨O, W, R, p⟩
  | ok dx cx =>
   have h' : q0N (itmD dx cx) = some ri := h
   unfold itmD at h'
   split at h'
   ·rename_i ks vs
    split at h'
    ·rename_i hcx
     cases hk : kvs? ks vs with
     | none => rw [hk] at h'; cases h'
     | some L =>
      rw [hk] at h'
      cases h'
      subst hcx
      exact (C _ A).weak λ σ H R' ⟨O, W, R, p⟩ => ⟨O, W, R, λ x H1 s1 g1 => by
       obtain ⟨a, ob, kvs, e1, e2, e3, e4⟩ := q2r.mp (show Rep X.D (L2.wo (O ++ W) H1) (.dct ks vs) x from g1)
       exact ⟨a, ob, kvs, e1, q0F _ _ e2, p _ H1 s1 (.items e2 (z0r hk e3 e4))⟩⟩
    ·cases h'
   ·cases h'
end
end L2
end
section
namespace L2
open PySem PySem.Spec PyProof.Rows
section
variable {X : Cx} {CX : CXT} {k : Nat} {f : Addr} {fd : FuncData} {ps ks : List Str} {sp : Sp} {E : St -> XK} {x : Str} {p pos : Pos} {e : Expr} {es : List Expr} {kws : List Keyword} {t tk : TA} {g : List Value -> List Value -> List Value} {gV : List V -> List V -> List V}
end
section
variable {X : Cx} {E : St -> XK} {δ : List Sv} {re : Re} {rs : Option Rs}
end
section
variable {X : Cx} {E : St -> XK} {δ : List Sv} {e : Expr} {es : List Expr} {pos p : Pos} {re : Re} {rs rs' : Option Rs} {k : Nat} {fa : Addr} {fd : FuncData} {ps : List Str} {x : Str}
noncomputable def q3d {α : Type} (n : Nat) (us ws : List α) : List α := if us.length + 1 = n /\ ws.length = 1 then us ++ ws else []
theorem q7J {n : Nat} {vs zs : List V} {us ws : List Value} (r : Vals vs us) (q : Vals zs ws) : Vals (q3d n vs zs) (q3d n us ws) := by
 unfold q3d
 rw [r.length, q.length]
 split
 ·exact r.append q
 ·exact .nil
end
end L2
end
section
namespace L2
open PySem PySem.Spec PyProof.Rows
noncomputable def z4i (K : PySem.W.Frag) (C : Addr) : Prop := ∃ B newId initId bmB, ExcBaseFacts B newId initId bmB /\ PySem.W.excIn K C bmB newId = true
structure XOne (K : PySem.W.Frag) (mg : Str -> Option Value) (G : Gs) (cl : List Str) (c : Str) (C : Addr) : Prop where
 mc : mg c = some (.ref C)
 ck : ClsK K C
 rk : z4i K C
 own : ∀ t ∈ cl, ∀ Ct, mg t = some (.ref Ct) -> PySem.W.kitOne K (.ref C) (.ref Ct) = some (q2z G c t) /\ (q2z G c t = true -> PySem.W.exmOne K (.ref C) (.ref Ct) = some true)
 blt : PySem.W.kitOne K (.ref C) (.type "ValueError") = some (q2z G c "ValueError")
structure XFacts (K : PySem.W.Frag) (mg : Str -> Option Value) (G : Gs) (cl : List Str) : Prop where
 one : ∀ c, (G.cls.lookup c).isSome = true -> ∃ C, XOne K mg G cl c C
 all : ∀ t ∈ cl, ∃ Ct, mg t = some (.ref Ct)
section
variable {X : Cx} {E : St -> XK} {δ : List Sv} {e : Expr} {pos p p' : Pos} {re : Re} {ra : Option Re} {G : Gs} {cl : List Str} {t : Str} {o : Out}
end
end L2
end
section
namespace L2
open PySem PySem.Spec PyProof.Rows
noncomputable def q8C (K : PySem.W.Frag) (w : World) (mg : Str -> Option Value) (x : Str) (kvs : List (Str × Str)) : Prop :=
 ∃ a es n, mg x = some (.ref a) /\ K.lookup a = some ⟨.type "dict", none, .dict es n, #[]⟩ /\ PySem.W.KeysLit w.params es.toList /\ ∀ k v, kvs.lookup k = some v -> v.length <= sizeLine /\ ∃ t, PySem.W.nsIn K a k = some (some (.str v t))
noncomputable def DK (K : PySem.W.Frag) (D : Dm) (G : Gs) (f : Nat) (fd : FuncData) (ps : List Str) : Prop :=
 (∀ ds, G.dfl.lookup f = some ds -> ∃ us dvs, q2w K fd ps us /\ Vals dvs us /\ ∀ H, RepL D H ds dvs) /\ ∀ n, G.kws.lookup f = some n -> KBinds K fd ps [n] (q3d ps.length) (q3d ps.length)
structure Good (sg : Sg) (G : Gs) (F : Nat -> List DV -> Option Ou) (X : Cx) (E : St -> XK) : Prop where
 N : X.N = sg.N
 nd : X.N.Nodup
 vis : ∀ x, visB sg x = true -> Vis X.env.scope x
 glo : ∀ x, gloB sg x = true -> Gl X x
 loc : ∀ x, locB sg x = true -> Loc X.env.scope x /\ (X.fn x = true \/ X.env.scope.names.lookup x = some .local)
 lcl : ∀ x, sg.sc.lookup x = some .local -> X.env.scope.names.lookup x = some .local
 cel : ∀ x, (sg.sc.lookup x = some .cell \/ sg.sc.lookup x = some .free) -> X.env.scope.names.lookup x = some .cell \/ X.env.scope.names.lookup x = some .free
 calm : X.calm = true
 hu : X.A.units + 64 < cLine
 fns : ∀ f x, sg.fn[f]? = some x -> ∃ k fa fd ps, Room k X.A /\ X.mg x = some (.ref fa) /\ PySem.W.keepIn X.K (.ref fa) = true /\ q2w X.K fd ps [] /\ (∀ ds o, F f ds = some o -> ds.length = ps.length) /\
  FnOk X.prog X.w X.K X.mg X.base (CXx X.prog X.w X.base) k fa fd ps (spF X.D ps.length (F f)) /\ DK X.K X.D G f fd ps
 blt : ∀ x ∈ sg.bl, X.mg x = none
 pas : q3B (CXx X.prog X.w X.base) X E
 con : ∀ x d, G.con.lookup x = some d -> ∃ u v, X.mg x = some u /\ RelV v u /\ ∀ H, Rep X.D H d v
 own : sg.lp = true -> PassesOwn (model X.prog X.w) X.A X.env X.xe
 xf : XFacts X.K X.mg G sg.cl
 st : sg.top = true -> X.stack = X.env :: X.outer /\ X.env.frame = some X.env.locals /\ X.ex = [] /\ q6f X E
 dcs : ∀ x kvs, G.dcs.lookup x = some kvs -> q8C X.K X.w X.mg x kvs
 hun : G.hun = true -> ∃ k fa fd ps hf, Room k X.A /\ X.mg q0U = some (.ref fa) /\ PySem.W.keepIn X.K (.ref fa) = true /\ q2w X.K fd ps [] /\ (∀ d l, F q4y [d, .lst l] = (hf d l).map λ r => .v r.1 false) /\ FnOk X.prog X.w X.K X.mg X.base (CXx X.prog X.w X.base) k fa fd ps (spH X.D hf)
theorem q1B : ∀ {l : List Str}, q3o l = true -> l.Nodup
 | [], _ => List.nodup_nil
 | x :: r, h => by
  unfold q3o at h
  rw [Bool.and_eq_true] at h
  refine List.nodup_cons.mpr ⟨λ z => ?_, q1B h.2⟩
  have := h.1
  rw [List.contains_iff_mem.mpr z] at this
  cases this
section
variable {sg : Sg} {G : Gs} {F : Nat -> List DV -> Option Ou} {X : Cx} {E : St -> XK} {tg : Tg} {sc : Scope} {N' : List Str} {fr : List (Option Nat)}
theorem q1l (g : Good sg G F X E) (h : q2v sg N' fr sc tg = true) : CompScope X.N N' sc X.env.scope fr /\ (∀ (j k i : Nat), fr[j]? = some (some i) -> fr[k]? = some (some i) -> j = k) /\ ∀ i ∈ q2s tg, fr[i]? = some none := by
 unfold q2v at h
 simp only [Bool.and_eq_true, List.all_eq_true, beq_iff_eq] at h
 obtain ⟨⟨⟨⟨⟨⟨h0, h1⟩, h2⟩, h3⟩, h4⟩, h5⟩, h6⟩ := h
 have h5' : ∀ (j i : Nat), fr[j]? = some (some i) -> ∃ x, N'[j]? = some x /\ sg.N[i]? = some x /\ (x, NameKind.free) ∈ sc.names := λ j i e => by
  have hj : j < fr.length := (List.getElem?_eq_some_iff.mp e).1
  have hj' : j < N'.length := by rw [← h4]; exact hj
  have hz : (some i, N'[j]) ∈ fr.zip N' := by
   refine List.mem_of_getElem? (i := j) ?_
   rw [List.getElem?_zip_eq_some]
   exact ⟨e, List.getElem?_eq_getElem hj'⟩
  have q := h5 _ hz
  simp only [Bool.and_eq_true, beq_iff_eq, List.contains_iff_mem] at q
  exact ⟨_, List.getElem?_eq_getElem hj', q.1, q.2⟩
 refine ⟨⟨h1, q1B h2, q1B h3, h4, λ j i e => ?_, λ y hy hk => ?_⟩, λ j k i e1 e2 => ?_, h0⟩
 ·obtain ⟨x, a, b, c⟩ := h5' j i e
  exact ⟨x, a, by rw [g.N]; exact b, c⟩
 ·have q := h6 y hy
  rw [if_pos hk] at q
  simp only [Bool.or_eq_true, beq_iff_eq] at q
  exact g.cel _ q
 ·obtain ⟨x, a, b, _⟩ := h5' j i e1
  obtain ⟨x', a', b', _⟩ := h5' k i e2
  rw [b] at b'; cases b'
  exact q4v (q1B h2) a a'
theorem q1q (g : Good sg G F X E) (h : q2v sg N' fr sc tg = true) (C : Addr) (cells : List (Str × Addr)) (s₂ : Shared) (H₂ : Hp) (fp : List Addr) : Good ⟨N', sc.names, sg.fn, sg.bl, sg.cl, false, true⟩ G F (q0s X sc N' C cells s₂ H₂ fp) E0s := by
 obtain ⟨S, _, _⟩ := q1l g h
 have look : ∀ x, (q0s X sc N' C cells s₂ H₂ fp).env.scope.names.lookup x = (sc.names.lookup x).map λ k => if (k == NameKind.free && X.env.scope.kind == .function && X.env.kindOf x == some .cell) = true then NameKind.cell else k := λ x => q1t
 have one : ∀ x k, sc.names.lookup x = some k -> k ≠ .free -> (q0s X sc N' C cells s₂ H₂ fp).env.scope.names.lookup x = some k := λ x k e hk => by
  rw [look, e, Option.map_some, if_neg]
  intro z
  simp only [Bool.and_eq_true, beq_iff_eq] at z
  exact hk z.1.1
 have two : ∀ x, sc.names.lookup x = some .free -> (q0s X sc N' C cells s₂ H₂ fp).env.scope.names.lookup x = some .cell \/ (q0s X sc N' C cells s₂ H₂ fp).env.scope.names.lookup x = some .free := λ x e => by
  rw [look, e, Option.map_some]
  split
  ·exact .inl rfl
  ·exact .inr rfl
 refine ⟨rfl, S.nd, λ x hx => ?_, λ x hx => ?_, λ x hx => ?_, λ x hx => one x _ hx (by intro z; cases z), λ x hx => ?_, g.calm, g.hu, g.fns, g.blt, ?_, g.con, λ _ => .never, g.xf, (λ z => nomatch z), g.dcs, g.hun⟩
 ·unfold visB at hx
  simp only [Bool.or_eq_true, beq_iff_eq] at hx
  rcases hx with (hx | hx) | hx
  ·exact .inl (one x _ hx (by intro z; cases z))
  ·exact .inr (.inl (one x _ hx (by intro z; cases z)))
  ·exact .inr (two x hx)
 ·unfold gloB at hx
  rw [beq_iff_eq] at hx
  exact one x _ hx (by intro z; cases z)
 ·unfold locB at hx
  simp only [Bool.or_eq_true, beq_iff_eq] at hx
  rcases hx with hx | hx
  ·exact ⟨.inl (one x _ hx (by intro z; cases z)), .inr (one x _ hx (by intro z; cases z))⟩
  ·exact ⟨.inr (one x _ hx (by intro z; cases z)), .inl (by show (sc.names.lookup x == some .cell) = true; rw [hx]; rfl)⟩
 ·rcases hx with hx | hx
  ·exact .inl (one x _ hx (by intro z; cases z))
  ·exact two x hx
 ·intro pins σ H s e s' I z
  obtain ⟨_, _, _, _, _, _, _, _, _, _, q⟩ := z
  exact q.elim
theorem q2S (g : Good sg G F X E) {i : Nat} {x : Str} (h : q3P sg i x = true) : X.N[i]? = some x /\ Vis X.env.scope x /\ (x == ("__debug__" : Str)) = false /\ (x == ("__classdict__" : Str)) = false := by
 unfold q3P at h
 simp only [Bool.and_eq_true, beq_iff_eq, bne_iff_ne, ne_eq] at h
 obtain ⟨⟨⟨h1, h2⟩, h3⟩, h4⟩ := h
 exact ⟨by rw [g.N]; exact h1, g.vis x h2, beq_eq_false_iff_ne.mpr h3, beq_eq_false_iff_ne.mpr h4⟩
theorem q4c (g : Good sg G F X E) {x : Str} {f : Expr} (h : bltB sg x f = true) : (∃ p, f = .Name x p) /\ Gl X x /\ X.mg x = none := by
 unfold bltB at h
 simp only [Bool.and_eq_true, beq_iff_eq, List.contains_iff_mem] at h
 obtain ⟨⟨h1, h2⟩, h3⟩ := h
 exact ⟨q0r h1, g.glo x h2, g.blt x h3⟩
theorem q5o (g : Good sg G F X E) : ∀ (is : List Nat) (es : List Expr), es.length = is.length -> ((is.zip es).all λ p => match q0I p.2 with | some x => sg.N[p.1]? == some x && locB sg x | none => false) = true ->
  PGs X es (q5X is) /\ (assignEach es X.env).length = is.length /\ (assignEach es X.env).findIdx? (·.1) = none
 | [], [], _, _ => ⟨z2C, rfl, rfl⟩
 | [], _ :: _, h, _ => by cases h
 | _ :: _, [], h, _ => by cases h
 | i :: is, e :: es, hl, h => by
  rw [List.zip_cons_cons, List.all_cons, Bool.and_eq_true] at h
  obtain ⟨h1, h2⟩ := h
  obtain ⟨A, B, C⟩ := q5o g is es (by simpa using hl) h2
  split at h1
  ·rename_i x q
   obtain ⟨p, rfl⟩ := q0r q
   simp only [Bool.and_eq_true, beq_iff_eq] at h1
   have l := g.loc x h1.2
   refine ⟨q9F (q8G g.nd (by rw [g.N]; exact h1.1) l.1 l.2) A rfl, ?_, ?_⟩
   ·show (assignEach es X.env).length + 1 = is.length + 1
    rw [B]
   ·show ((false, assign (.Name x p) X.env) :: assignEach es X.env).findIdx? (·.1) = none
    rw [List.findIdx?_cons, C]; rfl
  ·cases h1
theorem q8l (g : Good sg G F X E) {tgE : Expr} (h : tgOk sg tg tgE = true) : PG X tgE (gT X.K tg) := by
 cases tg with
 | one i =>
  unfold tgOk at h
  dsimp only at h
  split at h
  ·rename_i x q
   obtain ⟨p, rfl⟩ := q0r q
   simp only [Bool.and_eq_true, beq_iff_eq] at h
   have l := g.loc x h.2
   exact q8G g.nd (by rw [g.N]; exact h.1) l.1 l.2
  ·cases h
 | many is =>
  unfold tgOk at h
  dsimp only at h
  split at h
  ·rename_i es q
   obtain ⟨k, p, rfl⟩ := q1O q
   rw [Bool.and_eq_true, Bool.and_eq_true, beq_iff_eq] at h
   obtain ⟨A, B, C⟩ := q5o g is es h.1.1 h.2
   exact z4f g.calm A B C
  ·cases h
end
section
variable (G : Gs) (F : Nat -> List DV -> Option Ou)
noncomputable def SE (m : ME) : Prop := ∀ {sg : Sg} {X : Cx} {E : St -> XK} {e : Expr} {δ : List Sv} {r : Re}, Good sg G F X E -> corE sg false m e = true -> evE G F m δ = some r -> PE X e (dE X.D E δ r)
noncomputable def ST (m : ME) : Prop := ∀ {sg : Sg} {X : Cx} {E : St -> XK} {e : Expr} {δ : List Sv} {r : Rt}, Good sg G F X E -> corE sg false m e = true -> tstD (evE G F m δ) = some r -> PT X e (dT X.D E δ r)
noncomputable def SI (m : ME) : Prop := ∀ {sg : Sg} {X : Cx} {E : St -> XK} {e tg : Expr} {δ : List Sv} {r : Ri}, Good sg G F X E -> corE sg true m e = true -> (isZp m = true -> (q2j tg).isSome = true) -> q0N (evE G F m δ) = some r -> PI X tg e (dI X.D E δ r)
noncomputable def SEs (ms : List ME) : Prop := ∀ {sg : Sg} {X : Cx} {E : St -> XK} {es : List Expr} {δ : List Sv} {r : Rs}, Good sg G F X E -> q0R sg ms es = true -> evEs G F ms δ = some r -> PA X es (dA X.D E δ r)
noncomputable def SAnd (ms : List ME) : Prop := ∀ {sg : Sg} {X : Cx} {E : St -> XK} {es : List Expr} {δ : List Sv} {pos : Pos}, Good sg G F X E -> q0R sg ms es = true ->
 (∀ r, q2h G F ms δ = some r -> PE X (.BoolOp .And es pos) (dE X.D E δ r)) /\ (∀ r, tstD (q2h G F ms δ) = some r -> PW X (.BoolOp .And es pos) (dT X.D E δ r))
noncomputable def SOr (ms : List ME) : Prop := ∀ {sg : Sg} {X : Cx} {E : St -> XK} {es : List Expr} {δ : List Sv} {pos : Pos}, Good sg G F X E -> q0R sg ms es = true ->
 (∀ r, evOr G F ms δ = some r -> PE X (.BoolOp .Or es pos) (dE X.D E δ r)) /\ (∀ r, tstD (evOr G F ms δ) = some r -> PW X (.BoolOp .Or es pos) (dT X.D E δ r))
noncomputable def S1 (m : ME) : Prop := SE G F m /\ ST G F m /\ SI G F m
end
section
variable {G : Gs} {F : Nat -> List DV -> Option Ou}
theorem S1.of {m : ME} (h : SE G F m) (hw : ∀ sg e, corE sg true m e = corE sg false m e) (ht : ∀ sg e env, corE sg false m e = true -> ∀ whole, isTrue e env whole = (do let v ← whole; standAt e.pos; holding [v] (truthy v))) : S1 G F m :=
 ⟨h, λ {sg X E e δ r} g hc q => q7W (λ z hz => h g hc hz) (ht sg e X.env hc) q, λ {sg X E e tg δ r} g hc _ q => q6D (λ z hz => h g (by rw [← hw]; exact hc) hz) q⟩
theorem S1.of2 {m : ME} (h : SE G F m) (ht : ST G F m) (hw : ∀ sg e, corE sg true m e = corE sg false m e) : S1 G F m :=
 ⟨h, ht, λ {sg X E e tg δ r} g hc _ q => q6D (λ z hz => h g (by rw [← hw]; exact hc) hz) q⟩
end
end L2
end
section
namespace L2
open PySem PySem.Spec PyProof.Rows
noncomputable def z3X : Expr -> Bool
 | .UnaryOp .Not _ _ => false | .BoolOp _ _ _ => false | .IfExp _ _ _ _ => false | .Compare _ _ _ _ => false
 | _ => true
theorem q0d {e : Expr} (h : z3X e = true) (env : Env) : ∀ whole, isTrue e env whole = (do let v ← whole; standAt e.pos; holding [v] (truthy v)) := by
 cases e with
 | UnaryOp o a p => cases o <;> first | (intro _; rfl) | cases h
 | BoolOp _ _ _ => cases h
 | IfExp _ _ _ _ => cases h
 | Compare _ _ _ _ => cases h
 | _ => intro _; rfl
section
variable {G : Gs} {F : Nat -> List DV -> Option Ou} {a b c : ME}
theorem z6y {i : Nat} : S1 G F (.var i) := by
 refine .of (λ {sg X E e δ r} g hc h => ?_) (λ _ _ => rfl) (λ sg e env hc => ?_)
 ·unfold corE at hc
  split at hc
  ·rename_i x q
   obtain ⟨p, rfl⟩ := q0r q
   obtain ⟨h1, h2, h3, h4⟩ := q2S g hc
   exact z1s h1 h2 h3 h4 (by unfold evE at h; exact h)
  ·cases hc
 ·unfold corE at hc
  split at hc
  ·rename_i x q
   obtain ⟨p, rfl⟩ := q0r q
   exact q0d rfl env
  ·cases hc
theorem q4u {m : ME} {k : Const} {d : DV} (hm : ∀ sg w e, corE sg w m e = true -> q1V e = some k) (he : ∀ δ, evE G F m δ = some (.ok d .strong)) (hw : ∀ sg e, corE sg true m e = corE sg false m e)
  (hp : ∀ {X : Cx} {E : St -> XK} {δ : List Sv} {j : Nat} {pos : Pos} sg e, corE sg false m e = true -> PE X (.Constant k j pos) (dE X.D E δ (.ok d .strong))) : S1 G F m := by
 refine .of (λ {sg X E e δ r} g hc h => ?_) hw (λ sg e env hc => ?_)
 ·obtain ⟨j, p, rfl⟩ := q2P (hm sg false e hc)
  rw [he] at h; cases h
  exact hp sg _ hc
 ·obtain ⟨j, p, rfl⟩ := q2P (hm sg false e hc)
  exact q0d rfl env
theorem z5s {i : Int} : S1 G F (.int i) := q4u (λ sg w e h => by unfold corE at h; exact beq_iff_eq.mp h) (λ δ => by unfold evE; rfl) (λ _ _ => rfl) λ _ _ _ => z2a
theorem s_bl {i : Bool} : S1 G F (.bl i) := q4u (λ sg w e h => by unfold corE at h; exact beq_iff_eq.mp h) (λ δ => by unfold evE; rfl) (λ _ _ => rfl) λ _ _ _ => z4j
theorem z6E : S1 G F .non := q4u (λ sg w e h => by unfold corE at h; exact beq_iff_eq.mp h) (λ δ => by unfold evE; rfl) (λ _ _ => rfl) λ _ _ _ => z0X
theorem z6b {i : Str} : S1 G F (.str i) := q4u (λ sg w e h => by unfold corE at h; rw [Bool.and_eq_true] at h; exact beq_iff_eq.mp h.1) (λ δ => by unfold evE; rfl) (λ _ _ => rfl) λ _ _ h => by
 unfold corE at h
 rw [Bool.and_eq_true, decide_eq_true_eq] at h
 exact z1T (Nat.le_trans h.2 (by decide))
theorem z5I {x : Str} : S1 G F (.glb x) := by
 refine .of (λ {sg X E e δ r} g hc h => ?_) (λ _ _ => rfl) (λ sg e env hc => ?_)
 ·unfold corE at hc
  simp only [Bool.and_eq_true, beq_iff_eq, bne_iff_ne, ne_eq] at hc
  obtain ⟨p, rfl⟩ := q0r hc.1.1
  unfold evE at h
  obtain ⟨d, h1, h2⟩ := Option.map_eq_some_iff.mp h
  cases h2
  obtain ⟨u, v, m, rv, rp⟩ := g.con x d h1
  exact (z2F (g.glo x hc.1.2) m rv (beq_eq_false_iff_ne.mpr hc.2)).weak λ σ H Q ⟨O, W, R, p⟩ => p v H (Same.refl H) (rp _)
 ·unfold corE at hc
  simp only [Bool.and_eq_true, beq_iff_eq] at hc
  obtain ⟨p, rfl⟩ := q0r hc.1.1
  exact q0d rfl env
theorem z5l {op : Operator} (ha : S1 G F a) (hb : S1 G F b) : S1 G F (.bin op a b) := by
 refine .of (λ {sg X E e δ r} g hc h => ?_) (λ _ _ => rfl) (λ sg e env hc => ?_)
 ·unfold corE at hc
  split at hc
  ·rename_i ea o eb q
   obtain ⟨p, rfl⟩ := q6s q
   simp only [Bool.and_eq_true, beq_iff_eq] at hc
   obtain ⟨⟨h1, h2⟩, h3⟩ := hc
   subst h1
   unfold evE at h
   exact z0T (λ z hz => ha.1 g h2 hz) (λ z hz => hb.1 g h3 hz) h
  ·cases hc
 ·unfold corE at hc
  split at hc
  ·rename_i q; obtain ⟨p, rfl⟩ := q6s q; exact q0d rfl env
  ·cases hc
theorem z5y (ha : S1 G F a) : S1 G F (.neg a) := by
 refine .of (λ {sg X E e δ r} g hc h => ?_) (λ _ _ => rfl) (λ sg e env hc => ?_)
 ·unfold corE at hc
  split at hc
  ·rename_i o ea q
   obtain ⟨p, rfl⟩ := q4J q
   simp only [Bool.and_eq_true, beq_iff_eq] at hc
   obtain ⟨h1, h2⟩ := hc
   subst h1
   unfold evE at h
   exact z1w (λ z hz => ha.1 g h2 hz) h
  ·cases hc
 ·unfold corE at hc
  split at hc
  ·rename_i q; obtain ⟨p, rfl⟩ := q4J q
   simp only [Bool.and_eq_true, beq_iff_eq] at hc
   obtain ⟨h1, h2⟩ := hc
   subst h1
   exact q0d rfl env
  ·cases hc
theorem z6p (ha : S1 G F a) : S1 G F (.not a) := by
 refine .of2 (λ {sg X E e δ r} g hc h => ?_) (λ {sg X E e δ r} g hc h => ?_) (λ _ _ => rfl)
 ·unfold corE at hc
  split at hc
  ·rename_i o ea q
   obtain ⟨p, rfl⟩ := q4J q
   simp only [Bool.and_eq_true, beq_iff_eq] at hc
   obtain ⟨h1, h2⟩ := hc
   subst h1
   unfold evE at h
   exact z1Z (λ z hz => ha.1 g h2 hz) h
  ·cases hc
 ·unfold corE at hc
  split at hc
  ·rename_i o ea q
   obtain ⟨p, rfl⟩ := q4J q
   simp only [Bool.and_eq_true, beq_iff_eq] at hc
   obtain ⟨h1, h2⟩ := hc
   subst h1
   unfold evE at h
   exact q9u (λ z hz => ha.2.1 g h2 hz) h
  ·cases hc
theorem z6h {op : CmpOp} (ha : S1 G F a) (hb : S1 G F b) : S1 G F (.cmp op a b) := by
 refine .of2 (λ {sg X E e δ r} g hc h => ?_) (λ {sg X E e δ r} g hc h => ?_) (λ _ _ => rfl)
 ·unfold corE at hc
  split at hc
  ·rename_i ea o eb q
   obtain ⟨p, rfl⟩ := q6d q
   simp only [Bool.and_eq_true, beq_iff_eq, Bool.not_eq_true'] at hc
   obtain ⟨⟨⟨h1, h2⟩, h3⟩, h4⟩ := hc
   subst h1
   unfold evE at h
   exact z0U g.hu (λ z hz => ha.1 g h2 hz) (λ z hz => hb.1 g h3 hz) h4 h
  ·cases hc
 ·unfold corE at hc
  split at hc
  ·rename_i ea o eb q
   obtain ⟨p, rfl⟩ := q6d q
   simp only [Bool.and_eq_true, beq_iff_eq, Bool.not_eq_true'] at hc
   obtain ⟨⟨⟨h1, h2⟩, h3⟩, h4⟩ := hc
   subst h1
   unfold evE at h
   exact z0j g.hu (λ z hz => ha.1 g h2 hz) (λ z hz => hb.1 g h3 hz) h4 h
  ·cases hc
theorem s_ix (ha : S1 G F a) (hb : S1 G F b) : S1 G F (.ix a b) := by
 refine .of (λ {sg X E e δ r} g hc h => ?_) (λ _ _ => rfl) (λ sg e env hc => ?_)
 ·unfold corE at hc
  split at hc
  ·rename_i ea eb q
   obtain ⟨p, rfl⟩ := q0T q
   simp only [Bool.and_eq_true, Bool.not_eq_true'] at hc
   obtain ⟨⟨h1, h2⟩, h3⟩ := hc
   unfold evE at h
   exact z5f (λ z hz => ha.1 g h1 hz) (λ z hz => hb.1 g h2 hz) h3 h
  ·cases hc
 ·unfold corE at hc
  split at hc
  ·rename_i q; obtain ⟨p, rfl⟩ := q0T q; exact q0d rfl env
  ·cases hc
theorem s_sl (ha : S1 G F a) (hb : S1 G F b) (hcc : S1 G F c) : S1 G F (.sl a b c) := by
 refine .of (λ {sg X E e δ r} g hc h => ?_) (λ _ _ => rfl) (λ sg e env hc => ?_)
 ·unfold corE at hc
  split at hc
  ·rename_i ea es q
   obtain ⟨p, rfl⟩ := q0T q
   split at hc
   ·rename_i q2
    obtain ⟨p2, rfl⟩ := q2V q2
    simp only [Bool.and_eq_true] at hc
    obtain ⟨⟨h1, h2⟩, h3⟩ := hc
    unfold evE at h
    exact z3B (λ z hz => ha.1 g h1 hz) (λ z hz => hb.1 g h2 hz) (λ z hz => hcc.1 g h3 hz) h
   ·cases hc
  ·cases hc
 ·unfold corE at hc
  split at hc
  ·rename_i q; obtain ⟨p, rfl⟩ := q0T q; exact q0d rfl env
  ·cases hc
theorem z5p (ha : S1 G F a) (hb : S1 G F b) : S1 G F (.slf a b) := by
 refine .of (λ {sg X E e δ r} g hc h => ?_) (λ _ _ => rfl) (λ sg e env hc => ?_)
 ·unfold corE at hc
  split at hc
  ·rename_i ea es q
   obtain ⟨p, rfl⟩ := q0T q
   split at hc
   ·rename_i q2
    obtain ⟨p2, rfl⟩ := q2V q2
    simp only [Bool.and_eq_true] at hc
    obtain ⟨h1, h2⟩ := hc
    unfold evE at h
    exact z2g (λ z hz => ha.1 g h1 hz) (λ z hz => hb.1 g h2 hz) h
   ·cases hc
  ·cases hc
 ·unfold corE at hc
  split at hc
  ·rename_i q; obtain ⟨p, rfl⟩ := q0T q; exact q0d rfl env
  ·cases hc
theorem z5W (ha : S1 G F a) (hb : S1 G F b) : S1 G F (.slt a b) := by
 refine .of (λ {sg X E e δ r} g hc h => ?_) (λ _ _ => rfl) (λ sg e env hc => ?_)
 ·unfold corE at hc
  split at hc
  ·rename_i ea es q
   obtain ⟨p, rfl⟩ := q0T q
   split at hc
   ·rename_i q2
    obtain ⟨p2, rfl⟩ := q2V q2
    simp only [Bool.and_eq_true] at hc
    obtain ⟨h1, h2⟩ := hc
    unfold evE at h
    exact z2o (λ z hz => ha.1 g h1 hz) (λ z hz => hb.1 g h2 hz) h
   ·cases hc
  ·cases hc
 ·unfold corE at hc
  split at hc
  ·rename_i q; obtain ⟨p, rfl⟩ := q0T q; exact q0d rfl env
  ·cases hc
variable {ms : List ME}
theorem q3K : ∀ {sg : Sg} {ms : List ME} {es : List Expr}, q0R sg ms es = true -> es.any q0k = false
 | _, [], [], _ => rfl
 | _, [], _ :: _, h => by unfold q0R at h; cases h
 | _, _ :: _, [], h => by unfold q0R at h; cases h
 | sg, m :: ms, e :: es, h => by
  unfold q0R at h
  simp only [Bool.and_eq_true, Bool.not_eq_true'] at h
  rw [List.any_cons, h.1.2, q3K h.2]; rfl
theorem z5q (ha : SEs G F ms) : S1 G F (.lst ms) := by
 refine .of (λ {sg X E e δ r} g hc h => ?_) (λ _ _ => rfl) (λ sg e env hc => ?_)
 ·unfold corE at hc
  split at hc
  ·rename_i es q
   obtain ⟨p, rfl⟩ := q4Y q
   unfold evE at h
   exact z1x (λ z hz => ha g hc hz) h
  ·cases hc
 ·unfold corE at hc
  split at hc
  ·rename_i q; obtain ⟨p, rfl⟩ := q4Y q; exact q0d rfl env
  ·cases hc
theorem z5C (ha : SEs G F ms) : S1 G F (.tup ms) := by
 refine .of (λ {sg X E e δ r} g hc h => ?_) (λ _ _ => rfl) (λ sg e env hc => ?_)
 ·unfold corE at hc
  split at hc
  ·rename_i es q
   obtain ⟨k, p, rfl⟩ := q1O q
   unfold evE at h
   exact z0Z (λ z hz => ha g hc hz) h
  ·cases hc
 ·unfold corE at hc
  split at hc
  ·rename_i q; obtain ⟨k, p, rfl⟩ := q1O q; exact q0d rfl env
  ·cases hc
theorem z4y {f : Nat} (ha : SEs G F ms) : S1 G F (.call f ms) := by
 refine .of (λ {sg X E e δ r} g hc h => ?_) (λ _ _ => rfl) (λ sg e env hc => ?_)
 ·unfold corE at hc
  split at hc
  ·rename_i ef es pos q
   have := q0B q
   subst this
   rw [Bool.and_eq_true, Bool.and_eq_true] at hc
   obtain ⟨⟨h1, h2⟩, h3⟩ := hc
   split at h1
   ·rename_i x qx
    obtain ⟨p, rfl⟩ := q0r qx
    simp only [Bool.and_eq_true, beq_iff_eq, bne_iff_ne, ne_eq] at h1
    obtain ⟨k, fa, fd, ps, hr, hm, hk, hb, hl, fo, dk⟩ := g.fns f x h1.1.1
    cases es with
    | nil => cases h2
    | cons y ys =>
     have ns := q3K h3
     rw [List.any_cons, Bool.or_eq_false_iff] at ns
     unfold evE at h
     exact q9P fo hl hr (g.glo x h1.1.2) hm hk hb g.pas (λ z hz => ha g h3 hz) (beq_eq_false_iff_ne.mpr h1.2) ns.1 ns.2 h
   ·cases h1
  ·cases hc
 ·unfold corE at hc
  split at hc
  ·rename_i q; have := q0B q; subst this; exact q0d rfl env
  ·cases hc
theorem s_bi {f : Bi} (ha : SEs G F ms) : S1 G F (.bi f ms) := by
 refine .of (λ {sg X E e δ r} g hc h => ?_) (λ _ _ => rfl) (λ sg e env hc => ?_)
 ·unfold corE at hc
  split at hc
  ·rename_i ef es pos q
   have := q0B q
   subst this
   rw [Bool.and_eq_true, Bool.and_eq_true] at hc
   obtain ⟨⟨h1, h2⟩, h3⟩ := hc
   obtain ⟨⟨p, rfl⟩, hg, hm⟩ := q4c g h1
   unfold evE at h
   cases es with
   | nil => cases h2
   | cons y ys =>
    have go : q0R sg ms (y :: ys) = true -> (∀ q, evEs G F ms δ = some q -> PA X (y :: ys) (dA X.D E δ q)) /\ q0k y = false /\ ys.any q0k = false := λ z => by
     have ns := q3K z
     rw [List.any_cons, Bool.or_eq_false_iff] at ns
     exact ⟨λ w hw => ha g z hw, ns.1, ns.2⟩
    cases f with
    | len => obtain ⟨A, s1, s2⟩ := go h3; exact z0D z4G z2h hg hm boot_len (by decide) (by decide) A s1 s2 h
    | min => obtain ⟨A, s1, s2⟩ := go h3; exact z0D (z3H g.calm (by have := g.hu; omega)) z1Q hg hm boot_min (by decide) (by decide) A s1 s2 h
    | list => obtain ⟨A, s1, s2⟩ := go h3; exact z2m z2f q9N hg hm boot_list (by decide) (by decide) A s1 s2 h
    | lrng =>
     dsimp only at h3
     split at h3
     ·rename_i e1 q2
      split at h3
      ·rename_i ef' es' pos' q3
       have q4 := q0B q3
       cases q2
       subst q4
       rw [Bool.and_eq_true, Bool.and_eq_true] at h3
       obtain ⟨⟨p', rfl⟩, hg', hm'⟩ := q4c g h3.1.1
       cases es' with
       | nil => cases h3.1.2
       | cons y' ys' =>
        have ns := q3K h3.2
        rw [List.any_cons, Bool.or_eq_false_iff] at ns
        cases ys' with
        | nil => exact q9L g.calm hg hm hg' hm' (λ w hw => ha g h3.2 hw) ns.1 h
        | cons y2 yr =>
         have z := beq_iff_eq.mp h3.1.2
         simp at z
      ·cases h3
     ·cases h3
    | _ => cases h
  ·cases hc
 ·unfold corE at hc
  split at hc
  ·rename_i q; have := q0B q; subst this; exact q0d rfl env
  ·cases hc
theorem q3y {x : Str} (h : q0Z.contains x = true) : ∃ t, q3c x = some t := by
 have key : ∀ x ∈ q0Z, ∃ t, q3c x = some t := by
  intro x hx
  simp only [q0Z, List.mem_cons, List.not_mem_nil, or_false] at hx
  rcases hx with rfl | rfl | rfl | rfl | rfl | rfl
  ·exact ⟨"int", by decide +kernel⟩
  ·exact ⟨"bool", by decide +kernel⟩
  ·exact ⟨"str", by decide +kernel⟩
  ·exact ⟨"list", by decide +kernel⟩
  ·exact ⟨"tuple", by decide +kernel⟩
  ·exact ⟨"dict", by decide +kernel⟩
 exact key x (List.contains_iff_mem.mp h)
theorem q1H : ∀ x ∈ q0Z, x ≠ "__name__" /\ (x == ("__debug__" : Str)) = false := by
 intro x hx
 simp only [q0Z, List.mem_cons, List.not_mem_nil, or_false] at hx
 rcases hx with rfl | rfl | rfl | rfl | rfl | rfl <;> exact ⟨by decide +kernel, by decide +kernel⟩
theorem z6x {i : Int} (ha : S1 G F a) : S1 G F (.dct i a) := by
 refine .of (λ {sg X E e δ r} g hc h => ?_) (λ _ _ => rfl) (λ sg e env hc => ?_)
 ·unfold corE at hc
  split at hc
  ·rename_i ek ev q
   obtain ⟨p, rfl⟩ := q6j q
   simp only [Bool.and_eq_true, beq_iff_eq] at hc
   obtain ⟨j, kp, rfl⟩ := q2P hc.1
   unfold evE at h
   exact z2I (λ z hz => ha.1 g hc.2 hz) h
  ·cases hc
 ·unfold corE at hc
  split at hc
  ·rename_i q; obtain ⟨p, rfl⟩ := q6j q; exact q0d rfl env
  ·cases hc
theorem z5Y : S1 G F .dc0 := by
 refine .of (λ {sg X E e δ r} g hc h => ?_) (λ _ _ => rfl) (λ sg e env hc => ?_)
 ·unfold corE at hc
  split at hc
  ·unfold evE at h
   cases h
   exact z1J
  ·cases hc
 ·unfold corE at hc
  split at hc
  ·exact q0d rfl env
  ·cases hc
theorem z6u (ha : S1 G F a) (hb : S1 G F b) : S1 G F (.dix a b) := by
 refine .of (λ {sg X E e δ r} g hc h => ?_) (λ _ _ => rfl) (λ sg e env hc => ?_)
 ·unfold corE at hc
  split at hc
  ·rename_i ea eb q
   obtain ⟨p, rfl⟩ := q0T q
   simp only [Bool.and_eq_true, Bool.not_eq_true'] at hc
   obtain ⟨⟨h1, h2⟩, h3⟩ := hc
   unfold evE at h
   exact z1r (Nat.lt_of_le_of_lt (by omega) g.hu) (λ z hz => ha.1 g h1 hz) (λ z hz => hb.1 g h2 hz) h3 h
  ·cases hc
 ·unfold corE at hc
  split at hc
  ·rename_i q; obtain ⟨p, rfl⟩ := q0T q; exact q0d rfl env
  ·cases hc
theorem z5O {i : Nat} (ha : S1 G F a) (hb : S1 G F b) : S1 G F (.dgt i a b) := by
 refine .of (λ {sg X E e δ r} g hc h => ?_) (λ _ _ => rfl) (λ sg e env hc => ?_)
 ·unfold corE at hc
  split at hc
  ·rename_i ef ek ed pos q
   have := q0B q
   subst this
   split at hc
   ·rename_i ob n apos q2
    have := q3w q2
    subst this
    simp only [Bool.and_eq_true, Bool.not_eq_true'] at hc
    obtain ⟨⟨⟨⟨⟨⟨h1, h2⟩, h3⟩, h4⟩, h5⟩, h6⟩, h7⟩ := hc
    split at h2
    ·rename_i x q3
     obtain ⟨np, rfl⟩ := q0r q3
     obtain ⟨s1, s2, s3, s4⟩ := q2S g h2
     have hn : n = "get" := beq_iff_eq.mp h1
     subst hn
     unfold evE at h
     exact z2P (q4a s1 s2 s3 s4) (λ z hz => ha.1 g h3 hz) (λ z hz => hb.1 g h4 hz) h5 h6 h7 h
    ·cases h2
   ·cases hc
  ·cases hc
 ·unfold corE at hc
  split at hc
  ·rename_i q
   have := q0B q
   subst this
   exact q0d rfl env
  ·cases hc
theorem z5B {ts : List Str} (ha : S1 G F a) : S1 G F (.isi a ts) := by
 refine .of (λ {sg X E e δ r} g hc h => ?_) (λ _ _ => rfl) (λ sg e env hc => ?_)
 ·unfold corE at hc
  split at hc
  ·rename_i ef ea et pos q
   have := q0B q
   subst this
   simp only [Bool.and_eq_true, Bool.not_eq_true'] at hc
   obtain ⟨⟨⟨⟨h1, h2⟩, h3⟩, h4⟩, h5⟩ := hc
   obtain ⟨⟨p, rfl⟩, hg, hm⟩ := q4c g h1
   split at h5
   ·rename_i t
    simp only [Bool.and_eq_true, beq_iff_eq, List.contains_iff_mem] at h5
    obtain ⟨⟨⟨k1, k2⟩, k3⟩, k4⟩ := h5
    obtain ⟨p', rfl⟩ := q0r k1
    obtain ⟨T, hT⟩ := q3y (List.contains_iff_mem.mpr k4)
    obtain ⟨n1, n2⟩ := q1H t k4
    unfold evE at h
    exact z0V hT hg hm (g.glo t k2) (g.blt t k3) n1 n2 (λ z hz => ha.1 g h2 hz) h3 h
   ·rename_i t u
    split at h5
    ·rename_i e1 e2 q2
     obtain ⟨kk, tp, rfl⟩ := q1O q2
     simp only [Bool.and_eq_true, beq_iff_eq, List.contains_iff_mem] at h5
     obtain ⟨⟨⟨⟨k1, k2⟩, k3⟩, k4⟩, ⟨⟨l1, l2⟩, l3⟩, l4⟩ := h5
     obtain ⟨p1, rfl⟩ := q0r k1
     obtain ⟨p2, rfl⟩ := q0r l1
     obtain ⟨T, hT⟩ := q3y (List.contains_iff_mem.mpr k4)
     obtain ⟨U, hU⟩ := q3y (List.contains_iff_mem.mpr l4)
     obtain ⟨n1, n2⟩ := q1H t k4
     obtain ⟨m1, m2⟩ := q1H u l4
     unfold evE at h
     refine q9U (kf := λ d => isiD G d [t, u]) hT hU hg hm (g.glo t k2) (g.blt t k3) n1 n2 (g.glo u l2) (g.blt u l3) m1 m2 (λ d k e1 => ?_) (λ z hz => ha.1 g h2 hz) h3 h
     have px : (q0Z.contains t && q0Z.contains u) = true := by rw [Bool.and_eq_true]; exact ⟨List.contains_iff_mem.mpr k4, List.contains_iff_mem.mpr l4⟩
     unfold isiD at e1
     cases d <;> first
      | (simp only [px, if_true] at e1; cases e1; exact ⟨_, rfl, rfl⟩)
      | cases e1
    ·cases h5
   ·cases h5
  ·cases hc
 ·unfold corE at hc
  split at hc
  ·rename_i q; have := q0B q; subst this; exact q0d rfl env
  ·cases hc
theorem q1N : ∀ {ms : List ME} {δ : List Sv} {l : List (DV × Cl)}, evEs G F ms δ = some (.ok l) -> l.length = ms.length
 | [], _, _, h => by unfold evEs at h; cases h; rfl
 | m :: ms, δ, l, h => by
  unfold evEs at h
  split at h
  ·cases h
  ·cases h
  ·split at h
   ·cases h
   ·cases h
   ·rename_i l' q
    cases h
    rw [List.length_cons, List.length_cons, q1N q]
theorem q3a : ∀ {sg : Sg} {ms : List ME} {es : List Expr}, q0R sg ms es = true -> ms.length = es.length
 | _, [], [], _ => rfl
 | _, [], _ :: _, h => by unfold q0R at h; cases h
 | _, _ :: _, [], h => by unfold q0R at h; cases h
 | sg, m :: ms, e :: es, h => by
  unfold q0R at h
  simp only [Bool.and_eq_true] at h
  rw [List.length_cons, List.length_cons, q3a h.2]
theorem z6A (ha : SEs G F ms) : S1 G F (.rng ms) := by
 refine ⟨λ {sg X E e δ r} g hc h => ?_, λ {sg X E e δ r} g hc h => ?_, λ {sg X E e tg δ r} g hc _ h => ?_⟩
 ·unfold corE at hc; rw [Bool.false_and] at hc; cases hc
 ·unfold corE at hc; rw [Bool.false_and] at hc; cases hc
 ·unfold corE at hc
  rw [Bool.true_and] at hc
  split at hc
  ·rename_i ef es pos q
   have := q0B q
   subst this
   rw [Bool.and_eq_true, decide_eq_true_eq] at hc
   obtain ⟨hc, hle⟩ := hc
   rw [Bool.and_eq_true] at hc
   obtain ⟨⟨p, rfl⟩, hg, hm⟩ := q4c g hc.1
   have l1 := q3a hc.2
   have ns := q3K hc.2
   unfold evE at h
   cases es with
   | nil =>
    exfalso
    cases ms with
    | nil => unfold evEs at h; cases h
    | cons _ _ => cases l1
   | cons y ys =>
    rw [List.any_cons, Bool.or_eq_false_iff] at ns
    cases ys with
    | nil => exact q6O hg hm (λ z hz => ha g hc.2 hz) ns.1 h λ l hl => by rw [q1N hl, l1]; rfl
    | cons z zs =>
     cases zs with
     | nil =>
      have ns2 := ns.2
      rw [List.any_cons, Bool.or_eq_false_iff] at ns2
      exact q6S hg hm (λ z hz => ha g hc.2 hz) ns.1 ns2.1 h λ l hl => by rw [q1N hl, l1]; rfl
     | cons u us =>
      cases us with
      | nil =>
       have ns2 := ns.2
       rw [List.any_cons, Bool.or_eq_false_iff] at ns2
       have ns3 := ns2.2
       rw [List.any_cons, Bool.or_eq_false_iff] at ns3
       exact q7k hg hm (λ z hz => ha g hc.2 hz) ns.1 ns2.1 ns3.1 h λ l hl => by rw [q1N hl, l1]; rfl
      | cons _ _ => simp at hle
  ·cases hc
theorem s_zp (ha : S1 G F a) (hb : S1 G F b) : S1 G F (.zp a b) := by
 refine ⟨λ {sg X E e δ r} g hc h => ?_, λ {sg X E e δ r} g hc h => ?_, λ {sg X E e tg δ r} g hc ht h => ?_⟩
 ·unfold corE at hc; rw [Bool.false_and] at hc; cases hc
 ·unfold corE at hc; rw [Bool.false_and] at hc; cases hc
 ·unfold corE at hc
  rw [Bool.true_and] at hc
  split at hc
  ·rename_i ef ea eb pos q
   have := q0B q
   subst this
   simp only [Bool.and_eq_true, Bool.not_eq_true'] at hc
   obtain ⟨⟨⟨⟨h1, h2⟩, h3⟩, h4⟩, h5⟩ := hc
   obtain ⟨⟨p, rfl⟩, hg, hm⟩ := q4c g h1
   have t := ht rfl
   cases q2 : q2j tg with
   | none => rw [q2] at t; cases t
   | some elts =>
    obtain ⟨k, tp, rfl⟩ := q1O q2
    unfold evE at h
    exact z3e hg hm h4 h5 (λ z hz => ha.1 g h2 hz) (λ z hz => hb.1 g h3 hz) h
  ·cases hc
theorem z6C (ha : S1 G F a) : S1 G F (.enu a) := by
 refine ⟨λ {sg X E e δ r} g hc h => ?_, λ {sg X E e δ r} g hc h => ?_, λ {sg X E e tg δ r} g hc ht h => ?_⟩
 ·unfold corE at hc; rw [Bool.false_and] at hc; cases hc
 ·unfold corE at hc; rw [Bool.false_and] at hc; cases hc
 ·unfold corE at hc
  rw [Bool.true_and] at hc
  split at hc
  ·rename_i ef ea pos q
   have := q0B q
   subst this
   simp only [Bool.and_eq_true, Bool.not_eq_true'] at hc
   obtain ⟨⟨h1, h2⟩, h3⟩ := hc
   obtain ⟨⟨p, rfl⟩, hg, hm⟩ := q4c g h1
   have t := ht rfl
   cases q2 : q2j tg with
   | none => rw [q2] at t; cases t
   | some elts =>
    obtain ⟨k, tp, rfl⟩ := q1O q2
    unfold evE at h
    exact q9D hg hm h3 (λ z hz => ha.1 g h2 hz) h
  ·cases hc
theorem z5N (ha : S1 G F a) : S1 G F (.itm a) := by
 refine ⟨λ {sg X E e δ r} g hc h => ?_, λ {sg X E e δ r} g hc h => ?_, λ {sg X E e tg δ r} g hc ht h => ?_⟩
 ·unfold corE at hc; rw [Bool.false_and] at hc; cases hc
 ·unfold corE at hc; rw [Bool.false_and] at hc; cases hc
 ·unfold corE at hc
  rw [Bool.true_and] at hc
  split at hc
  ·rename_i ef pos q
   have := q0B q
   subst this
   split at hc
   ·rename_i ob n apos q2
    have := q3w q2
    subst this
    simp only [Bool.and_eq_true] at hc
    obtain ⟨⟨⟨h1, h2⟩, h3⟩, h4⟩ := hc
    have hn : n = "items" := beq_iff_eq.mp h1
    subst hn
    cases q3 : q0I ob with
    | none => rw [q3] at h4; cases h4
    | some x =>
     obtain ⟨np, rfl⟩ := q0r q3
     have t := ht rfl
     cases q4 : q2j tg with
     | none => rw [q4] at t; cases t
     | some elts =>
      obtain ⟨k, tp, rfl⟩ := q1O q4
      unfold evE at h
      exact z2G rfl h3 (λ z hz => ha.1 g h2 hz) h
   ·cases hc
  ·cases hc
theorem z1L {sg : Sg} {X : Cx} {E : St -> XK} {e : Expr} {δ : List Sv} {r : Re} {tg : Tg} {fr : List (Option Nat)} {cp : CParts} {tn : List Str} (ha : S1 G F a) (hb : S1 G F b) (g : Good sg G F X E) (hemp : cp.ifs = [])
  (h2 : corE sg true b cp.it = true) (hz : isZp b = true -> (q2j cp.tg).isSome = true) (h4 : q2v sg (q1f sg tn fr) fr cp.sc tg = true) (h5 : tgOk ⟨q1f sg tn fr, cp.sc.names, sg.fn, sg.bl, sg.cl, false, true⟩ tg cp.tg = true) (h6 : corE ⟨q1f sg tn fr, cp.sc.names, sg.fn, sg.bl, sg.cl, false, true⟩ false a cp.elt = true)
  (h : evE G F (.comp a tg b fr) δ = some r) : q1e X E δ cp.tg cp.it cp.ifs cp.elt cp.sc (q1f sg tn fr) fr tg r := by
 obtain ⟨S, nd, sl⟩ := q1l g h4
 rw [hemp]
 unfold evE at h
 exact q3R S g.calm nd sl (λ z hz' => hb.2.2 g h2 hz hz') (λ C cells s₂ H₂ fp => q8l (q1q g h4 C cells s₂ H₂ fp) h5) (λ δ' r' hr C cells s₂ H₂ fp => ha.1 (q1q g h4 C cells s₂ H₂ fp) h6 hr) h
theorem q9v {sg : Sg} {X : Cx} {E : St -> XK} {e cd : Expr} {δ : List Sv} {r : Re} {tg : Tg} {fr : List (Option Nat)} {cp : CParts} {tn : List Str} (ha : S1 G F a) (hb : S1 G F b) (hcc : S1 G F c) (g : Good sg G F X E) (hemp : cp.ifs = [cd])
  (h2 : corE sg true b cp.it = true) (hz : isZp b = true -> (q2j cp.tg).isSome = true) (h4 : q2v sg (q1f sg tn fr) fr cp.sc tg = true) (h5 : tgOk ⟨q1f sg tn fr, cp.sc.names, sg.fn, sg.bl, sg.cl, false, true⟩ tg cp.tg = true) (h6 : corE ⟨q1f sg tn fr, cp.sc.names, sg.fn, sg.bl, sg.cl, false, true⟩ false a cp.elt = true)
  (h7 : corE ⟨q1f sg tn fr, cp.sc.names, sg.fn, sg.bl, sg.cl, false, true⟩ false c cd = true) (h : evE G F (.compi a tg b c fr) δ = some r) : q1e X E δ cp.tg cp.it cp.ifs cp.elt cp.sc (q1f sg tn fr) fr tg r := by
 obtain ⟨S, nd, sl⟩ := q1l g h4
 rw [hemp]
 unfold evE at h
 exact q3v S g.calm nd sl (λ z hz' => hb.2.2 g h2 hz hz') (λ C cells s₂ H₂ fp => q8l (q1q g h4 C cells s₂ H₂ fp) h5) (λ δ' r' hr C cells s₂ H₂ fp => ha.1 (q1q g h4 C cells s₂ H₂ fp) h6 hr)
  (λ δ' r' hr C cells s₂ H₂ fp => hcc.2.1 (q1q g h4 C cells s₂ H₂ fp) h7 hr) h
noncomputable def q3A (G : Gs) (F : Nat -> List DV -> Option Ou) (m : ME) : Prop := ∀ {sg : Sg} {X : Cx} {E : St -> XK} {e : Expr} {δ : List Sv} {r : Re}, Good sg G F X E -> corE sg false m e = true -> evE G F m δ = some r ->
 ∃ (cp : CParts) (N' : List Str) (fr : List (Option Nat)) (tg : Tg) (p : Pos), e = .ListComp cp.elt [⟨cp.tg, cp.it, cp.ifs, 0⟩] cp.sc p /\ CompScope X.N N' cp.sc X.env.scope fr /\ q1e X E δ cp.tg cp.it cp.ifs cp.elt cp.sc N' fr tg r /\
  (∀ C cells s₂ H₂ fp, PG (q0s X cp.sc N' C cells s₂ H₂ fp) cp.tg (gT X.K tg)) /\ q3f cp.it = false
theorem q3A.s1 {m : ME} (h : q3A G F m) (hw : ∀ sg e, corE sg true m e = corE sg false m e) (hl : ∀ sg e, corE sg false m e = true -> (q4d e).isSome = true) : S1 G F m := by
 refine .of (λ {sg X E e δ r} g hc q => ?_) hw (λ sg e env hc => ?_)
 ·obtain ⟨cp, N', fr, tg, p, rfl, S, P, hG, hs⟩ := h g hc q
  exact P.pe S g.calm hG hs
 ·have := hl sg e hc
  cases z : q4d e with
  | none => rw [z] at this; cases this
  | some cp => obtain ⟨p, rfl⟩ := q3G z; exact q0d rfl env
theorem z0u {tg : Tg} {fr : List (Option Nat)} (ha : S1 G F a) (hb : S1 G F b) : q3A G F (.comp a tg b fr) := by
 intro sg X E e δ r g hc h
 unfold corE at hc
 split at hc
 ·rename_i cp q
  obtain ⟨p, rfl⟩ := q3G q
  simp only [Bool.and_eq_true, Bool.not_eq_true', Bool.or_eq_true] at hc
  obtain ⟨⟨⟨h1, h2, h3⟩, h4⟩, h5⟩ := hc
  split at h5
  ·rename_i tn qt
   simp only [Bool.and_eq_true] at h5
   refine ⟨cp, _, fr, tg, p, rfl, (q1l g h5.1.1).1, z1L (e := .ListComp cp.elt [⟨cp.tg, cp.it, cp.ifs, 0⟩] cp.sc p) ha hb g (List.isEmpty_iff.mp h1) h2 (λ z => ?_) h5.1.1 h5.1.2 h5.2 h, λ C cells s₂ H₂ fp => q8l (q1q g h5.1.1 C cells s₂ H₂ fp) h5.1.2, h4⟩
   rcases h3 with w | w
   ·rw [z] at w; cases w
   ·exact w
  ·cases h5
 ·cases hc
theorem q8k {tg : Tg} {fr : List (Option Nat)} (ha : S1 G F a) (hb : S1 G F b) (hcc : S1 G F c) : q3A G F (.compi a tg b c fr) := by
 intro sg X E e δ r g hc h
 unfold corE at hc
 split at hc
 ·rename_i cp q
  obtain ⟨p, rfl⟩ := q3G q
  simp only [Bool.and_eq_true, Bool.not_eq_true', Bool.or_eq_true] at hc
  obtain ⟨⟨⟨h2, h3⟩, h4⟩, h5⟩ := hc
  split at h5
  ·rename_i tn ec qt qi
   simp only [Bool.and_eq_true] at h5
   refine ⟨cp, _, fr, tg, p, rfl, (q1l g h5.1.1.1).1, q9v (e := .ListComp cp.elt [⟨cp.tg, cp.it, cp.ifs, 0⟩] cp.sc p) ha hb hcc g qi h2 (λ z => ?_) h5.1.1.1 h5.1.1.2 h5.1.2 h5.2 h, λ C cells s₂ H₂ fp => q8l (q1q g h5.1.1.1 C cells s₂ H₂ fp) h5.1.1.2, h4⟩
   rcases h3 with w | w
   ·rw [z] at w; cases w
   ·exact w
  ·cases h5
 ·cases hc
theorem z4F {tg : Tg} {fr : List (Option Nat)} (ha : S1 G F a) (hb : S1 G F b) : S1 G F (.comp a tg b fr) := q3A.s1 (λ {sg X E e δ r} => z0u ha hb) (λ _ _ => rfl) λ sg e hc => by
 unfold corE at hc
 split at hc
 ·rename_i q; rw [q]; rfl
 ·cases hc
theorem z1e {tg : Tg} {fr : List (Option Nat)} (ha : S1 G F a) (hb : S1 G F b) (hcc : S1 G F c) : S1 G F (.compi a tg b c fr) := q3A.s1 (λ {sg X E e δ r} => q8k ha hb hcc) (λ _ _ => rfl) λ sg e hc => by
 unfold corE at hc
 split at hc
 ·rename_i q; rw [q]; rfl
 ·cases hc
theorem z5V : SEs G F [] := λ {sg X E es δ r} g hc h => by
 cases es with
 | nil => unfold evEs at h; cases h; exact q9B
 | cons _ _ => unfold q0R at hc; cases hc
theorem z3i (ha : S1 G F a) (hb : SEs G F ms) : SEs G F (a :: ms) := λ {sg X E es δ r} g hc h => by
 cases es with
 | nil => unfold q0R at hc; cases hc
 | cons e es =>
  unfold q0R at hc
  simp only [Bool.and_eq_true, Bool.not_eq_true'] at hc
  unfold evEs at h
  exact q8H hc.1.2 (λ z hz => ha.1 g hc.1.1 hz) (λ z hz => hb g hc.2 hz) h
theorem z2r : SAnd G F [] := λ {sg X E es δ pos} g hc => ⟨λ r h => (by unfold q2h at h; cases h), λ r h => (by unfold q2h at h; cases h)⟩
theorem z3F : SOr G F [] := λ {sg X E es δ pos} g hc => ⟨λ r h => (by unfold evOr at h; cases h), λ r h => (by unfold evOr at h; cases h)⟩
theorem q9O (ha : S1 G F a) (hb : SAnd G F ms) : SAnd G F (a :: ms) := λ {sg X E es δ pos} g hc => by
 cases es with
 | nil => unfold q0R at hc; cases hc
 | cons e es =>
  unfold q0R at hc
  simp only [Bool.and_eq_true, Bool.not_eq_true'] at hc
  cases ms with
  | nil =>
   cases es with
   | nil =>
    refine ⟨λ r h => ?_, λ r h => ?_⟩
    ·unfold q2h at h; exact z0y (ha.1 g hc.1.1 h)
    ·unfold q2h at h; exact z1z (ha.2.1 g hc.1.1 h)
   | cons _ _ => have := hc.2; unfold q0R at this; cases this
  | cons m ms =>
   cases es with
   | nil => have := hc.2; unfold q0R at this; cases this
   | cons e' es =>
    have B := @hb sg X E (e' :: es) δ pos g hc.2
    refine ⟨λ r h => ?_, λ r h => ?_⟩
    ·unfold q2h at h; exact z2X (λ z hz => ha.1 g hc.1.1 hz) (λ z hz => B.1 z hz) h
    ·unfold q2h at h; exact q9m (λ z hz => ha.2.1 g hc.1.1 hz) (λ z hz => B.2 z hz) h
theorem z1X (ha : S1 G F a) (hb : SOr G F ms) : SOr G F (a :: ms) := λ {sg X E es δ pos} g hc => by
 cases es with
 | nil => unfold q0R at hc; cases hc
 | cons e es =>
  unfold q0R at hc
  simp only [Bool.and_eq_true, Bool.not_eq_true'] at hc
  cases ms with
  | nil =>
   cases es with
   | nil =>
    refine ⟨λ r h => ?_, λ r h => ?_⟩
    ·unfold evOr at h; exact z0y (ha.1 g hc.1.1 h)
    ·unfold evOr at h; exact z4z (ha.2.1 g hc.1.1 h)
   | cons _ _ => have := hc.2; unfold q0R at this; cases this
  | cons m ms =>
   cases es with
   | nil => have := hc.2; unfold q0R at this; cases this
   | cons e' es =>
    have B := @hb sg X E (e' :: es) δ pos g hc.2
    refine ⟨λ r h => ?_, λ r h => ?_⟩
    ·unfold evOr at h; exact z3u (λ z hz => ha.1 g hc.1.1 hz) (λ z hz => B.1 z hz) h
    ·unfold evOr at h; exact z2B (λ z hz => ha.2.1 g hc.1.1 hz) (λ z hz => B.2 z hz) h
theorem z5J (ha : SAnd G F ms) : S1 G F (.and ms) := by
 refine .of2 (λ {sg X E e δ r} g hc h => ?_) (λ {sg X E e δ r} g hc h => ?_) (λ _ _ => rfl)
 ·unfold corE at hc
  split at hc
  ·rename_i o es q
   obtain ⟨p, rfl⟩ := q2K q
   simp only [Bool.and_eq_true, beq_iff_eq] at hc
   obtain ⟨h1, h2⟩ := hc
   subst h1
   unfold evE at h
   exact (ha g h2).1 r h
  ·cases hc
 ·unfold corE at hc
  split at hc
  ·rename_i o es q
   obtain ⟨p, rfl⟩ := q2K q
   simp only [Bool.and_eq_true, beq_iff_eq] at hc
   obtain ⟨h1, h2⟩ := hc
   subst h1
   unfold evE at h
   exact ((ha g h2).2 r h).pt
  ·cases hc
theorem s_or (ha : SOr G F ms) : S1 G F (.or ms) := by
 refine .of2 (λ {sg X E e δ r} g hc h => ?_) (λ {sg X E e δ r} g hc h => ?_) (λ _ _ => rfl)
 ·unfold corE at hc
  split at hc
  ·rename_i o es q
   obtain ⟨p, rfl⟩ := q2K q
   simp only [Bool.and_eq_true, beq_iff_eq] at hc
   obtain ⟨h1, h2⟩ := hc
   subst h1
   unfold evE at h
   exact (ha g h2).1 r h
  ·cases hc
 ·unfold corE at hc
  split at hc
  ·rename_i o es q
   obtain ⟨p, rfl⟩ := q2K q
   simp only [Bool.and_eq_true, beq_iff_eq] at hc
   obtain ⟨h1, h2⟩ := hc
   subst h1
   unfold evE at h
   exact ((ha g h2).2 r h).pt
  ·cases hc
end
section
variable {G : Gs} {F : Nat -> List DV -> Option Ou}
mutual
theorem snd : ∀ m : ME, S1 G F m
 | .var _ => z6y
 | .int _ => z5s
 | .bl _ => s_bl
 | .str _ => z6b
 | .non => z6E
 | .glb _ => z5I
 | .bin _ a b => z5l (snd a) (snd b)
 | .neg a => z5y (snd a)
 | .not a => z6p (snd a)
 | .cmp _ a b => z6h (snd a) (snd b)
 | .and es => z5J (z0K es)
 | .or es => s_or (z4K es)
 | .lst es => z5q (sndL es)
 | .tup es => z5C (sndL es)
 | .dct _ a => z6x (snd a)
 | .dc0 => z5Y
 | .ix a b => s_ix (snd a) (snd b)
 | .sl a b c => s_sl (snd a) (snd b) (snd c)
 | .slf a b => z5p (snd a) (snd b)
 | .slt a b => z5W (snd a) (snd b)
 | .call _ es => z4y (sndL es)
 | .bi _ es => s_bi (sndL es)
 | .isi a _ => z5B (snd a)
 | .comp a _ b _ => z4F (snd a) (snd b)
 | .compi a _ b c _ => z1e (snd a) (snd b) (snd c)
 | .rng es => z6A (sndL es)
 | .zp a b => s_zp (snd a) (snd b)
 | .enu a => z6C (snd a)
 | .itm a => z5N (snd a)
 | .dix a b => z6u (snd a) (snd b)
 | .dgt _ a b => z5O (snd a) (snd b)
theorem sndL : ∀ ms : List ME, SEs G F ms
 | [] => z5V
 | a :: ms => z3i (snd a) (sndL ms)
theorem z0K : ∀ ms : List ME, SAnd G F ms
 | [] => z2r
 | a :: ms => q9O (snd a) (z0K ms)
theorem z4K : ∀ ms : List ME, SOr G F ms
 | [] => z3F
 | a :: ms => z1X (snd a) (z4K ms)
end
end
end L2
end
section
namespace L2
open PySem PySem.Spec PyProof.Rows
section
variable (G : Gs) (F : Nat -> List DV -> Option Ou) (fu : Nat)
noncomputable def SS (m : MS) : Prop := ∀ {sg : Sg} {X : Cx} {E : St -> XK} {st : Stmt} {δ : List Sv} {o : Out}, Good sg G F X E -> corS sg m st = true -> evS G F fu m δ = some o -> PS X st (dS X.D E δ o)
noncomputable def SSs (ms : List MS) : Prop := ∀ {sg : Sg} {X : Cx} {E : St -> XK} {sts : List Stmt} {δ : List Sv} {o : Out}, Good sg G F X E -> q2y sg ms sts = true -> evSs G F fu ms δ = some o -> PSs X sts (dS X.D E δ o)
end
section
variable {G : Gs} {F : Nat -> List DV -> Option Ou} {fu : Nat} {e k : ME} {i : Nat}
theorem z4L : ∀ {e : ME}, q7u e = true -> q3A G F e
 | .comp a _ b _, _ => z0u (snd a) (snd b)
 | .compi a _ b c _, _ => q8k (snd a) (snd b) (snd c)
theorem z6B {own : Bool} : SS G F fu (.set i own e) := by
 intro sg X E st δ o g hc h
 unfold corS at hc
 split at hc
 ·rename_i t v pos
  split at hc
  ·rename_i x pt
   simp only [Bool.and_eq_true, beq_iff_eq, Bool.or_eq_true, Bool.not_eq_true'] at hc
   obtain ⟨⟨⟨h1, h2⟩, h3⟩, h4⟩ := hc
   have l := g.loc x h2
   have hN : X.N[i]? = some x := by rw [g.N]; exact h1
   unfold evS at h
   cases hv : q4g v with
   | false => exact q8r g.nd hN l.1 l.2 (λ z hz => (snd e).1 g h3 hz) (q4h hv) h
   | true =>
    rcases h4 with h4 | h5
    ·rw [hv] at h4; cases h4
    ·cases hr : evE G F e δ with
     | none => rw [hr] at h; cases h
     | some r =>
      obtain ⟨cp, N', fr, tg, p, rfl, S, P, hG, hs⟩ := z4L h5 g h3 hr
      cases hb : (X.env.blockKind == .function && X.env.kindOf x == some .local && pt.line == (Expr.ListComp cp.elt [⟨cp.tg, cp.it, cp.ifs, 0⟩] cp.sc p).pos.line && !(cp.sc.names.any λ (n, k) => n == x && (k == .local || k == .cell))) with
      | false =>
       have hsw : swapsWith (.ListComp cp.elt [⟨cp.tg, cp.it, cp.ifs, 0⟩] cp.sc p) (some (.Name x pt)) pos.line X.env = pure false := by
        show (pure (X.env.blockKind == .function && X.env.kindOf x == some .local && pt.line == (Expr.ListComp cp.elt [⟨cp.tg, cp.it, cp.ifs, 0⟩] cp.sc p).pos.line && !(cp.sc.names.any λ (n, k) => n == x && (k == .local || k == .cell))) : Sem Bool) = pure false
        rw [hb]
       exact q8r g.nd hN l.1 l.2 (λ z hz => (snd e).1 g h3 hz) hsw h
      | true =>
       have hsw : swapsWith (.ListComp cp.elt [⟨cp.tg, cp.it, cp.ifs, 0⟩] cp.sc p) (some (.Name x pt)) pos.line X.env = pure true := by
        show (pure (X.env.blockKind == .function && X.env.kindOf x == some .local && pt.line == (Expr.ListComp cp.elt [⟨cp.tg, cp.it, cp.ifs, 0⟩] cp.sc p).pos.line && !(cp.sc.names.any λ (n, k) => n == x && (k == .local || k == .cell))) : Sem Bool) = pure true
        rw [hb]
       rw [hr] at h
       have h4 : X.env.kindOf x = some .local := by
        simp only [Bool.and_eq_true, beq_iff_eq] at hb
        exact hb.1.1.2
       exact q5q S g.calm g.nd hN h4 P hG hs hsw h
  ·cases hc
 ·cases hc
theorem z6o : SS G F fu (.app i e) := by
 intro sg X E st δ o g hc h
 unfold corS at hc
 split at hc
 ·rename_i v pos
  split at hc
  ·rename_i ef ea cpos q
   have := q0B q
   subst this
   split at hc
   ·rename_i ob n apos q2
    have := q3w q2
    subst this
    simp only [Bool.and_eq_true, Bool.not_eq_true'] at hc
    obtain ⟨⟨⟨⟨h1, h2⟩, h3⟩, h4⟩, h5⟩ := hc
    split at h2
    ·rename_i x q3
     obtain ⟨np, rfl⟩ := q0r q3
     obtain ⟨s1, s2, s3, s4⟩ := q2S g h2
     have hn : n = "append" := beq_iff_eq.mp h1
     subst hn
     unfold evS at h
     exact q7o (q4a s1 s2 s3 s4) (λ z hz => (snd e).1 g h3 hz) h4 h5 h
    ·cases h2
   ·cases hc
  ·cases hc
 ·cases hc
theorem z5x : SS G F fu (.sed i) := by
 intro sg X E st δ o g hc h
 unfold corS at hc
 split at hc
 ·rename_i t v pos
  split at hc
  ·rename_i x q
   obtain ⟨np, rfl⟩ := q0r q
   split at hc
   ·rw [Bool.and_eq_true, beq_iff_eq] at hc
    obtain ⟨l1, l2⟩ := g.loc x hc.2
    unfold evS at h
    exact z2H g.nd (by rw [g.N]; exact hc.1) l1 l2 h
   ·cases hc
  ·cases hc
 ·cases hc
theorem z4Z : SS G F fu (.dput i k e) := by
 intro sg X E st δ o g hc h
 unfold corS at hc
 split at hc
 ·rename_i t v pos
  split at hc
  ·rename_i ob ek q
   obtain ⟨sp, rfl⟩ := q0T q
   simp only [Bool.and_eq_true, Bool.not_eq_true'] at hc
   obtain ⟨⟨⟨⟨h1, h2⟩, h3⟩, h4⟩, h5⟩ := hc
   split at h1
   ·rename_i x q3
    obtain ⟨np, rfl⟩ := q0r q3
    obtain ⟨s1, s2, s3, s4⟩ := q2S g h1
    unfold evS at h
    exact q9E (Nat.lt_of_le_of_lt (by omega) g.hu) (q4a s1 s2 s3 s4) (λ z hz => (snd e).1 g h4 hz) (λ z hz => (snd k).1 g h2 hz) h5 h
   ·cases h1
  ·cases hc
 ·cases hc
theorem z4O : SS G F fu (.retd i) := by
 intro sg X E st δ o g hc h
 unfold corS at hc
 split at hc
 ·rename_i v pos
  split at hc
  ·rename_i x q
   obtain ⟨np, rfl⟩ := q0r q
   obtain ⟨s1, s2, s3, s4⟩ := q2S g hc
   unfold evS at h
   exact q9n (q4a s1 s2 s3 s4) h
  ·cases hc
 ·cases hc
theorem z4d : SS G F fu (.seti i k e) := by
 intro sg X E st δ o g hc h
 unfold corS at hc
 split at hc
 ·rename_i t v pos
  split at hc
  ·rename_i ob ek q
   obtain ⟨sp, rfl⟩ := q0T q
   simp only [Bool.and_eq_true, Bool.not_eq_true'] at hc
   obtain ⟨⟨⟨h2, h3⟩, h4⟩, h5⟩ := hc
   split at h2
   ·rename_i x q3
    obtain ⟨np, rfl⟩ := q0r q3
    obtain ⟨s1, s2, s3, s4⟩ := q2S g h2
    unfold evS at h
    exact q7F (q4a s1 s2 s3 s4) (λ z hz => (snd e).1 g h5 hz) (λ z hz => (snd k).1 g h3 hz) h4 h
   ·cases h2
  ·cases hc
 ·cases hc
theorem z6D : SS G F fu (.ret e) := by
 intro sg X E st δ o g hc h
 unfold corS at hc
 split at hc
 ·unfold evS at h
  exact z2E (λ z hz => (snd e).1 g hc hz) h
 ·cases hc
theorem z6w : SS G F fu (.frz i) := by
 intro sg X E st δ o g hc h
 unfold corS at hc
 cases hc
variable {a b body : List MS} {c : ME} {tg : Tg}
theorem z5A (ha : SSs G F fu a) (hb : SSs G F fu b) : SS G F fu (.iff c a b) := by
 intro sg X E st δ o g hc h
 unfold corS at hc
 split at hc
 ·simp only [Bool.and_eq_true] at hc
  unfold evS at h
  exact z3I (λ z hz => (snd c).2.1 g hc.1.1 hz) (λ z hz => ha g hc.1.2 hz) (λ z hz => hb g hc.2 hz) h
 ·cases hc
theorem t_fo (hb : SSs G F fu body) : SS G F fu (.fo tg e body) := by
 intro sg X E st δ o g hc h
 unfold corS at hc
 split at hc
 ·simp only [Bool.and_eq_true, Bool.not_eq_true', Bool.or_eq_true] at hc
  obtain ⟨⟨⟨⟨h0, h1⟩, h2, h3⟩, h4⟩, h5⟩ := hc
  unfold evS at h
  exact z3f (g.own h0) g.calm (λ z hz => (snd e).2.2 g h2 (λ w => by
   rcases h3 with q | q
   ·rw [w] at q; cases q
   ·exact q) hz) (q8l g h1) (λ δ' o' ho => hb g h5 ho) h4 h
 ·cases hc
theorem t_wh (hb : SSs G F fu body) : SS G F fu (.wh c body) := by
 intro sg X E st δ o g hc h
 unfold corS at hc
 split at hc
 ·simp only [Bool.and_eq_true] at hc
  unfold evS at h
  exact q8D (g.own hc.1.1) (λ δ' r hr => (snd c).2.1 g hc.1.2 hr) (λ δ' o' ho => hb g hc.2 ho) h
 ·cases hc
theorem z3s : SSs G F fu [] := by
 intro sg X E sts δ o g hc h
 cases sts with
 | nil => unfold evSs at h; cases h; exact z2t
 | cons a b => unfold q2y at hc; cases hc
theorem z3L {ms : List MS} (hb : SSs G F fu ms) : SSs G F fu (.frz i :: ms) := by
 intro sg X E sts δ o g hc h
 have hc' : q2y sg ms sts = true := by unfold q2y at hc; exact hc
 unfold evSs at h
 have key : evS G F fu (.frz i) δ = (match δ[i]? with | some (.own d) => some (.nx (δ.set i (.val d))) | _ => some (.nx δ)) := by unfold evS; rfl
 rw [key] at h
 cases q : δ[i]? with
 | none => rw [q] at h; exact hb g hc' h
 | some sv =>
  rw [q] at h
  cases sv with
  | own d => exact q6W q (hb g hc' h)
  | no => exact hb g hc' h
  | val d => exact hb g hc' h
  | ot d => exact hb g hc' h
  | o2 d => exact hb g hc' h
  | od d => exact hb g hc' h
theorem q1y {m : MS} {ms : List MS} (ha : SS G F fu m) (hb : SSs G F fu ms) (hm : ∀ i, m ≠ .frz i) : SSs G F fu (m :: ms) := by
 intro sg X E sts δ o g hc h
 cases sts with
 | nil =>
  exfalso
  cases m <;> first | exact hm _ rfl | (unfold q2y at hc; cases hc)
 | cons st sts =>
  have hc' : corS sg m st = true /\ q2y sg ms sts = true := by
   cases m <;> first | exact absurd rfl (hm _) | (unfold q2y at hc; rw [Bool.and_eq_true] at hc; exact hc)
  unfold evSs at h
  split at h
  ·rename_i δ' q
   exact q9I (ha g hc'.1 q) (hb g hc'.2 h)
  ·rename_i hne
   have A := ha g hc'.1 h
   cases o with
   | nx δ' => exact absurd h (hne δ')
   | rt d fr => exact z3Z A
   | rtt d => exact z2c A
   | ex c δ' => exact z3t A
end
section
variable {G : Gs} {F : Nat -> List DV -> Option Ou} {fu : Nat}
mutual
theorem sndS : ∀ m : MS, SS G F fu m
 | .set _ _ _ => z6B
 | .app _ _ => z6o
 | .seti _ _ _ => z4d
 | .ret _ => z6D
 | .iff _ a b => z5A (q2k a) (q2k b)
 | .fo _ _ body => t_fo (q2k body)
 | .wh _ body => t_wh (q2k body)
 | .sed _ => z5x
 | .dput _ _ _ => z4Z
 | .retd _ => z4O
 | .frz _ => z6w
theorem q2k : ∀ ms : List MS, SSs G F fu ms
 | [] => z3s
 | .frz _ :: ms => z3L (q2k ms)
 | .set i o e :: ms => q1y (sndS (.set i o e)) (q2k ms) (by intro i z; cases z)
 | .app i o :: ms => q1y (sndS (.app i o)) (q2k ms) (by intro i z; cases z)
 | .seti i k o :: ms => q1y (sndS (.seti i k o)) (q2k ms) (by intro i z; cases z)
 | .ret e :: ms => q1y (sndS (.ret e)) (q2k ms) (by intro i z; cases z)
 | .iff c a b :: ms => q1y (sndS (.iff c a b)) (q2k ms) (by intro i z; cases z)
 | .fo t i b :: ms => q1y (sndS (.fo t i b)) (q2k ms) (by intro i z; cases z)
 | .wh c b :: ms => q1y (sndS (.wh c b)) (q2k ms) (by intro i z; cases z)
 | .sed i :: ms => q1y (sndS (.sed i)) (q2k ms) (by intro i z; cases z)
 | .dput i k e :: ms => q1y (sndS (.dput i k e)) (q2k ms) (by intro i z; cases z)
 | .retd i :: ms => q1y (sndS (.retd i)) (q2k ms) (by intro i z; cases z)
end
end
end L2
end
section
namespace L2
open PySem PySem.Spec PyProof.Rows
structure FunD (K : PySem.W.Frag) (x qual : Str) (st : Stmt) (f : Addr) (fd : FuncData) : Prop where
 ex : ∃ (oc : Value) (od : Option Addr) (dV kV doc pm : Value) (an : Option Addr) (cdv ct : Value) (osl : Array (Option Value)),
  fd = PySem.W.fnOf x qual (q0v st) (q0p st) (q0c st) dV kV doc pm an cdv ct /\ K.lookup f = some ⟨oc, od, .func fd, osl⟩ /\ PySem.W.codeIn K cdv qual = true
theorem FunD.okX {P : Program} {w : World} {K : PySem.W.Frag} {mg : Str -> Option Value} {base : Heap} {x qual : Str} {st : Stmt} {f : Addr} {fd : FuncData} {N ps : List Str} {k : Nat} {sp : Sp} (F : FunD K x qual st f fd) (S : FnScope N ps (q0c st)) (len : ∀ vs H Q E, sp vs H Q E -> vs.length = ps.length)
  (hbody : ∀ (cdv : Value) (A : Around) (outer : List Env) (s : Shared) (H : Hp) (vs : List V) (Q : VK) (E : XK), Room k (A.deeper (envOfC qual (q0c st) s.heap.objs.size f cdv)) -> sp vs H Q E ->
   ∃ t, PSs (cxD P w K mg base N qual (q0c st) f cdv A outer s H E) (q0p st) t /\ t { nx := λ _ H' => Q .non H', rt := Q } (start N vs) H) : FnOk P w K mg base (CXx P w base) (k + 1) f fd ps sp := by
 obtain ⟨oc, od, dV, kV, doc, pm, an, cdv, ct, osl, rfl, lk, hcd⟩ := F.ex
 exact z5E lk hcd S len λ A outer s H vs Q E hr hsp => hbody cdv A outer s H vs Q E hr hsp
noncomputable def popB (sg : Sg) (v : Expr) : Bool := match q1o v with
 | some (ef, [ea], [], pos) => (match q3X ef with
  | some (o, n, apos) => n == "pop" && (match q0I o with | some x => q3P sg 1 x | none => false) && corE sg false (.int 0) ea && !q0k ea && apos.endLine == pos.line
  | none => false)
 | _ => false
noncomputable def hunC (sg : Sg) (m : ME) (v : Expr) : Bool := match hunB sg 1 v with | some ea => corE sg false m ea | none => false
noncomputable def hm0 : ME := .cmp .Eq (.ix (.var 0) (.int 0)) (.str "end")
noncomputable def hm1 : ME := .cmp .Eq (.var 1) (.lst [])
noncomputable def corH (sg : Sg) (b : List Stmt) : Bool := match b with
 | [.If c [.If c2 [.Return (some e1) _] [] _, .Return (some e2) _] [] _, .Assign [.Name x _] e3 _, .Return (some e4) _] =>
  corE sg false hm0 c && corE sg false hm1 c2 && corE sg false (.var 0) e1 && popB sg e2 && sg.N[2]? == some x && locB sg x && !q4g e3 && hunC sg (.ix (.var 0) (.int 3)) e3 &&
  (match q2j e4 with
   | some [a, b, c, d, e] => corE sg false (.str "ask") a && corE sg false (.ix (.var 0) (.int 1)) b && corE sg false (.ix (.var 0) (.int 2)) c && corE sg false (.var 2) d && hunC sg (.ix (.var 0) (.int 4)) e && !q0k a && !q0k b && !q0k c && !q0k d && !q0k e
   | _ => false)
 | _ => false
noncomputable def hG : Gs := { con := [], cls := [], hun := true }
structure HStands (K : PySem.W.Frag) (mg : Str -> Option Value) (fa : Addr) (fd : FuncData) (ps : List Str) : Prop where
 mg : mg q0U = some (.ref fa)
 kp : PySem.W.keepIn K (.ref fa) = true
 bi : q2w K fd ps []
 np : ps.length = 2
 ex : ∃ qual st N, FunD K q0U qual st fa fd /\ FnScope N ps (q0c st) /\ N.length = 3 /\ corH ⟨N, (q0c st).names, [], [], [], true, true⟩ (q0p st) = true
theorem z1j {k : Nat} {d : DV} {l : List DV} : q7q k q4y [d, .lst l] = (q5r k d l).map λ r => .v r.1 false := by
 show (if q4y = q4y then _ else none) = _
 exact if_pos rfl
noncomputable def hδ (d : DV) (ds : List DV) (x : Sv) : List Sv := [.val d, .own (.lst ds), x]
section
variable {F : Nat -> List DV -> Option Ou} {d : DV} {ds : List DV} {x : Sv} {s : Str}
end
section
variable {P : Program} {w : World} {K : PySem.W.Frag} {mg : Str -> Option Value} {base : Heap} {fa : Addr} {fd : FuncData} {ps : List Str}
end
end L2
end
section
namespace L2
open PySem PySem.Spec PyProof.Rows
theorem RSt.start {D : Dm} {H : Hp} {N : List Str} {ds : List DV} {vs : List V} {O : List Addr} {n : Nat} (hn : n = N.length) (r : RepL D (L2.wo O H) ds vs) (ho : ∀ a ∈ O, H a ≠ none) : RSt D H (L2.start N vs) (q0L n ds) O [] := by
 subst hn
 have ino : ∀ (i : Nat) ds', (q0L N.length ds)[i]? ≠ some (.own ds') := λ i ds' h => by
  unfold q0L at h
  by_cases hi : i < (ds.map Sv.val).length
  ·rw [List.getElem?_append_left hi, List.getElem?_map] at h
   cases q : ds[i]? with
   | none => rw [q] at h; cases h
   | some d => rw [q] at h; cases h
  ·rw [List.getElem?_append_right (by omega), List.getElem?_replicate] at h
   split at h <;> cases h
 have iot : ∀ (i : Nat) ds', (q0L N.length ds)[i]? ≠ some (.ot ds') := λ i ds' h => by
  unfold q0L at h
  by_cases hi : i < (ds.map Sv.val).length
  ·rw [List.getElem?_append_left hi, List.getElem?_map] at h
   cases q : ds[i]? with
   | none => rw [q] at h; cases h
   | some d => rw [q] at h; cases h
  ·rw [List.getElem?_append_right (by omega), List.getElem?_replicate] at h
   split at h <;> cases h
 have io2 : ∀ (i : Nat) ds', (q0L N.length ds)[i]? ≠ some (.o2 ds') := λ i ds' h => by
  unfold q0L at h
  by_cases hi : i < (ds.map Sv.val).length
  ·rw [List.getElem?_append_left hi, List.getElem?_map] at h
   cases q : ds[i]? with
   | none => rw [q] at h; cases h
   | some d => rw [q] at h; cases h
  ·rw [List.getElem?_append_right (by omega), List.getElem?_replicate] at h
   split at h <;> cases h
 have iod : ∀ (i : Nat) ds', (q0L N.length ds)[i]? ≠ some (.od ds') := λ i ds' h => by
  unfold q0L at h
  by_cases hi : i < (ds.map Sv.val).length
  ·rw [List.getElem?_append_left hi, List.getElem?_map] at h
   cases q : ds[i]? with
   | none => rw [q] at h; cases h
   | some d => rw [q] at h; cases h
  ·rw [List.getElem?_append_right (by omega), List.getElem?_replicate] at h
   split at h <;> cases h
 refine ⟨λ i d h => ?_, λ i ds' h => absurd h (ino i ds'), λ i j a d1 d2 h => absurd h (ino i d1), λ i d h => absurd h (iot i d), λ i d h => absurd h (io2 i d), λ i d h => absurd h (iod i d), ?_, ⟨λ a ha => ho a (by simpa using ha), Same.refl _, λ a ha => (nomatch ha), λ a ha => (nomatch ha)⟩⟩
 ·unfold q0L at h
  by_cases hi : i < (ds.map Sv.val).length
  ·rw [List.getElem?_append_left hi, List.getElem?_map] at h
   cases q : ds[i]? with
   | none => rw [q] at h; cases h
   | some d' =>
    rw [q] at h
    cases h
    obtain ⟨v, e1, e2⟩ := r.get q
    refine ⟨v, ?_, by rw [List.append_nil]; exact e2⟩
    unfold L2.start
    rw [List.getElem?_append_left (by rw [List.length_map]; exact (List.getElem?_eq_some_iff.mp e1).1), List.getElem?_map, e1]
    rfl
  ·rw [List.getElem?_append_right (by omega), List.getElem?_replicate] at h
   split at h <;> cases h
 ·unfold L2.start q0L
  rw [List.length_append, List.length_append, List.length_map, List.length_map, List.length_replicate, List.length_replicate, r.length]
noncomputable def DfOk (G : Gs) (T : List FD) : Prop := (∀ f ds, G.dfl.lookup f = some ds -> ∃ d, T[f]? = some d /\ d.dfl = ds /\ ds ≠ []) /\ ∀ f n, G.kws.lookup f = some n -> ∃ d, T[f]? = some d /\ d.kn = some n
structure Stands (K : PySem.W.Frag) (mg : Str -> Option Value) (fn bl cl : List Str) (d : FD) (x : Str) (fa : Addr) (fd : FuncData) (ps : List Str) : Prop where
 dk : (d.dfl ≠ [] -> ∃ us dvs, q2w K fd ps us /\ Vals dvs us /\ ∀ H, RepL ⟨K, mg⟩ H d.dfl dvs) /\ ∀ n, d.kn = some n -> KBinds K fd ps [n] (q3d ps.length) (q3d ps.length)
 mg : mg x = some (.ref fa)
 kp : PySem.W.keepIn K (.ref fa) = true
 bi : q2w K fd ps []
 np : d.np = ps.length
 ex : ∃ qual st N, FunD K x qual st fa fd /\ FnScope N ps (q0c st) /\ d.n = N.length /\ q2y ⟨N, (q0c st).names, fn, bl, cl, true, true⟩ d.body (q0p st) = true
section
variable {P : Program} {w : World} {K : PySem.W.Frag} {mg : Str -> Option Value} {base : Heap} {G : Gs} {T : List FD} {fu : Nat} {fn bl cl : List Str}
theorem z0O (hT : T.length = fn.length) (hs : ∀ (i : Nat) d x, T[i]? = some d -> fn[i]? = some x -> ∃ fa fd ps, Stands K mg fn bl cl d x fa fd ps) (hbl : ∀ x ∈ bl, mg x = none) (hxf : XFacts K mg G cl)
  (hcon : ∀ x d, G.con.lookup x = some d -> ∃ u v, mg x = some u /\ RelV v u /\ ∀ H, Rep ⟨K, mg⟩ H d v) (hdc : ∀ x kvs, G.dcs.lookup x = some kvs -> q8C K w mg x kvs) (hdf : DfOk G T) (hh : G.hun = true -> T.length <= q4y /\ ∃ fa fd ps, mg q0U = some (.ref fa) /\ PySem.W.keepIn K (.ref fa) = true /\ q2w K fd ps [] /\ ∀ k, FnOk P w K mg base (CXx P w base) k fa fd ps (spH ⟨K, mg⟩ (q5r k))) : ∀ (k i : Nat) d x fa fd ps, T[i]? = some d -> fn[i]? = some x -> Stands K mg fn bl cl d x fa fd ps ->
  FnOk P w K mg base (CXx P w base) k fa fd ps (spF ⟨K, mg⟩ ps.length (run G T fu k i))
 | 0, i, d, x, fa, fd, ps, h1, h2, S => by
  refine ⟨λ vs H Q E h => ?_, λ A outer s H args us vs Q E hr he hb hv h => ?_⟩
  ·obtain ⟨_, _, _, _, _, _, q, _⟩ := h
   cases q
  ·obtain ⟨_, _, _, _, _, _, q, _⟩ := h
   cases q
 | k + 1, i, d, x, fa, fd, ps, h1, h2, S => by
  obtain ⟨qual, st, N, F, FS, hn, hc⟩ := S.ex
  refine F.okX FS (λ vs H Q E h => ?_) (λ cdv A outer s H vs Q E hr h => ?_)
  ·obtain ⟨O, ds, o, _, e1, e2, _⟩ := h
   rw [e2.length, e1]
  ·obtain ⟨O, ds, o, ho, e1, e2, e3, e4⟩ := h
   have e3' : (match T[i]? with | none => q7q (k + 1) i ds | some fd => if ds.length = fd.np then Ou.of (evSs G (run G T fu k) fu fd.body (q0L fd.n ds)) else none) = some o := e3
   rw [h1] at e3'
   have e3'' : (if ds.length = d.np then Ou.of (evSs G (run G T fu k) fu d.body (q0L d.n ds)) else none) = some o := e3'
   rw [if_pos (e1.trans S.np.symm)] at e3''
   have g : Good ⟨N, (q0c st).names, fn, bl, cl, true, true⟩ G (run G T fu k) (cxD P w K mg base N qual (q0c st) fa cdv A outer s H E) (λ _ => E) := by
    refine ⟨rfl, FS.nd, λ y hy => ?_, λ y hy => ?_, λ y hy => ⟨?_, .inl rfl⟩, λ y hy => hy, λ y hy => hy, rfl, hr.units, λ f y hy => ?_, hbl, q7l.s, hcon, λ _ => PassesOwn.leaving, hxf, λ _ => ⟨rfl, rfl, rfl, q7p⟩, hdc, λ z => by
     obtain ⟨hl, fa', fd', ps', s1, s2, s3, s4⟩ := hh z
     refine ⟨k, fa', fd', ps', q5r k, hr, s1, s2, s3, λ d l => ?_, s4 k⟩
     cases k with
     | zero => rfl
     | succ k =>
      show (match T[q4y]? with | none => q7q (k + 1) q4y [d, .lst l] | some fd => if [d, .lst l].length = fd.np then Ou.of (evSs G (run G T fu k) fu fd.body (q0L fd.n [d, .lst l])) else none) = _
      rw [List.getElem?_eq_none hl]
      exact z1j⟩
    ·unfold visB at hy
     simp only [Bool.or_eq_true, beq_iff_eq] at hy
     rcases hy with (hy | hy) | hy
     ·exact .inl hy
     ·exact .inr (.inl hy)
     ·exact .inr (.inr hy)
    ·unfold gloB at hy
     rw [beq_iff_eq] at hy
     exact hy
    ·unfold locB at hy
     simp only [Bool.or_eq_true, beq_iff_eq] at hy
     exact hy
    ·have hf : f < T.length := by rw [hT]; exact (List.getElem?_eq_some_iff.mp hy).1
     obtain ⟨d', hd'⟩ : ∃ d', T[f]? = some d' := ⟨_, List.getElem?_eq_getElem hf⟩
     obtain ⟨fa', fd', ps', S'⟩ := hs f d' y hd' hy
     refine ⟨k, fa', fd', ps', hr, S'.mg, S'.kp, S'.bi, λ ds o q => ?_, z0O hT hs hbl hxf hcon hdc hdf hh k f d' y fa' fd' ps' hd' hy S', ?_, ?_⟩
     rotate_left
     ·intro ds q
      obtain ⟨d2, q1, q2, q3⟩ := hdf.1 f ds q
      rw [hd'] at q1; cases q1
      have := S'.dk.1 (by rw [q2]; exact q3)
      rw [q2] at this
      exact this
     ·intro n q
      obtain ⟨d2, q1, q2⟩ := hdf.2 f n q
      rw [hd'] at q1; cases q1
      exact S'.dk.2 n q2
     cases k with
     | zero => cases q
     | succ k =>
      have q' : (match T[f]? with | none => q7q (k + 1) f ds | some fd => if ds.length = fd.np then Ou.of (evSs G (run G T fu k) fu fd.body (q0L fd.n ds)) else none) = some o := q
      rw [hd'] at q'
      have q'' : (if ds.length = d'.np then Ou.of (evSs G (run G T fu k) fu d'.body (q0L d'.n ds)) else none) = some o := q'
      split at q''
      ·rename_i z; rw [z, S'.np]
      ·cases q''
   cases ho' : evSs G (run G T fu k) fu d.body (q0L d.n ds) with
   | none => rw [ho'] at e3''; cases e3''
   | some oo =>
    rw [ho'] at e3''
    refine ⟨_, q2k d.body g hc ho', H, O, [], RSt.start hn e2 ho, (λ a ha => (nomatch ha)), ho, Same.refl H, ?_⟩
    cases oo with
    | nx δ => cases e3''; exact λ σ' H' W R fr sm => e4 .non H' sm (show Rep ⟨K, mg⟩ (L2.wo O H') .non .non by unfold Rep; rfl)
    | rt d fr => cases e3''; exact λ v H' sm gt => e4 v H' sm gt
    | rtt d => cases e3''; exact λ v H' sm gt => e4 v H' sm gt
    | ex c δ => cases e3''; exact λ σ' H' W C hm R fr sm => e4 H' C hm sm
end
end L2
end
section
namespace L2
open PySem PySem.Spec PyProof.Rows
noncomputable def okD (fn bl cl : List Str) (d : FD) (N ps : List Str) (st : Stmt) : Bool :=
 (q0c st).kind == .function && !(q0c st).isCoroutine && !(q0c st).isGenerator && q3o N && (N.take ps.length == ps) &&
 ps.all (λ x => (q0c st).names.lookup x == some .local || (q0c st).names.lookup x == some .cell) && (q0c st).names.all (λ y => !(y.2 == .free)) &&
 d.n == N.length && d.np == ps.length && q2y ⟨N, (q0c st).names, fn, bl, cl, true, true⟩ d.body (q0p st)
section
variable {P : Program} {w : World} {K : PySem.W.Frag} {mg : Str -> Option Value} {base h : Heap} {G : Gs} {T : List FD} {fu : Nat} {fn bl cl : List Str}
theorem q6R {d : FD} {x : Str} {N ps : List Str} {st : Stmt} {f : Addr} {oc : Value} {od an : Option Addr} {osl : Array (Option Value)} {dV kV doc pm cdv ct : Value} (X : K.In h) (Ns : h.Ns mainGlobals mg) (ok : okD fn bl cl d N ps st = true)
  (a : PySem.W.nsIn K mainGlobals x = some (some (.ref f))) (l : K.lookup f = some ⟨oc, od, .func (PySem.W.fnOf x x (q0v st) (q0p st) (q0c st) dV kV doc pm an cdv ct), osl⟩)
  (c : PySem.W.codeIn K cdv x = true) (k : PySem.W.keepIn K (.ref f) = true)
  (hb : q2w K (PySem.W.fnOf x x (q0v st) (q0p st) (q0c st) dV kV doc pm an cdv ct) ps [])
  (dk : (d.dfl ≠ [] -> ∃ us dvs, q2w K (PySem.W.fnOf x x (q0v st) (q0p st) (q0c st) dV kV doc pm an cdv ct) ps us /\ Vals dvs us /\ ∀ H, RepL ⟨K, mg⟩ H d.dfl dvs) /\ ∀ n, d.kn = some n -> KBinds K (PySem.W.fnOf x x (q0v st) (q0p st) (q0c st) dV kV doc pm an cdv ct) ps [n] (q3d ps.length) (q3d ps.length)) :
  Stands K mg fn bl cl d x f (PySem.W.fnOf x x (q0v st) (q0p st) (q0c st) dV kV doc pm an cdv ct) ps := by
 unfold okD at ok
 simp only [Bool.and_eq_true, beq_iff_eq, Bool.not_eq_true', List.all_eq_true, Bool.or_eq_true, beq_eq_false_iff_ne] at ok
 obtain ⟨⟨⟨⟨⟨⟨⟨⟨⟨h1, h2⟩, h3⟩, h4⟩, h5⟩, h6⟩, h7⟩, h8⟩, h9⟩, h10⟩ := ok
 exact ⟨dk, PySem.W.mg_of X Ns a, k, hb, h9, x, st, N, ⟨oc, od, dV, kV, doc, pm, an, cdv, ct, osl, rfl, l, c⟩, ⟨h1, h2, h3, q1B h4, h5, h6, h7⟩, h8, h10⟩
theorem q0S {d : FD} {x : Str} {N ps : List Str} {st : Stmt} {f : Addr} {oc : Value} {od an : Option Addr} {osl : Array (Option Value)} {kV doc pm cdv ct : Value} (X : K.In h) (Ns : h.Ns mainGlobals mg) (ok : okD fn bl cl d N ps st = true)
  (a : PySem.W.nsIn K mainGlobals x = some (some (.ref f))) (l : K.lookup f = some ⟨oc, od, .func (PySem.W.fnOf x x (q0v st) (q0p st) (q0c st) .none kV doc pm an cdv ct), osl⟩)
  (c : PySem.W.codeIn K cdv x = true) (k : PySem.W.keepIn K (.ref f) = true)
  (hb : ∀ (kV doc pm : Value) (an : Option Addr) (cdv ct : Value) (us : List Value), us.length = ps.length -> bindArgs (PySem.W.fnOf x x (q0v st) (q0p st) (q0c st) .none kV doc pm an cdv ct) ⟨us, []⟩ = pure (ps.zip us)) (e1 : d.dfl = [] := by rfl) (e2 : d.kn = none := by rfl) :
  Stands K mg fn bl cl d x f (PySem.W.fnOf x x (q0v st) (q0p st) (q0c st) .none kV doc pm an cdv ct) ps :=
 q6R X Ns ok a l c k (.all (hb kV doc pm an cdv ct)) ⟨λ z => absurd e1 z, λ n z => by rw [e2] at z; cases z⟩
theorem z4o {fd : FuncData} {ps : List Str} {n : Str} (h : ∀ (s : Shared) (us : List Value) (w : Value), K.In s.heap -> us.length + 1 = ps.length -> BindsTo s fd ⟨us, [(n, w)]⟩ (ps.zip (us ++ [w]))) (hp : ps ≠ []) : KBinds K fd ps [n] (q3d ps.length) (q3d ps.length) := by
 refine ⟨λ s us ws hK hl => ?_, λ r q => q7J r q⟩
 unfold q3d at hl ⊢
 split at hl
 ·rename_i c
  rw [if_pos c]
  obtain ⟨w, rfl⟩ := List.length_eq_one_iff.mp c.2
  exact h s us w hK c.1
 ·exact absurd (List.length_eq_zero_iff.mp hl.symm) hp
theorem z1y {G : Gs} {T : List FD} (e1 : G.dfl = [] := by rfl) (e2 : G.kws = [] := by rfl) : DfOk G T := ⟨λ f ds q => (by rw [e1] at q; cases q), λ f n q => (by rw [e2] at q; cases q)⟩
theorem z0e {G : Gs} {p : Prop} (e : G.hun = false := by rfl) : G.hun = true -> p := λ z => by rw [e] at z; cases z
noncomputable def okH (N ps : List Str) (st : Stmt) : Bool :=
 (q0c st).kind == .function && !(q0c st).isCoroutine && !(q0c st).isGenerator && q3o N && (N.take ps.length == ps) &&
 ps.all (λ x => (q0c st).names.lookup x == some .local || (q0c st).names.lookup x == some .cell) && (q0c st).names.all (λ y => !(y.2 == .free)) &&
 N.length == 3 && ps.length == 2 && corH ⟨N, (q0c st).names, [], [], [], true, true⟩ (q0p st)
theorem z3g {N ps : List Str} {st : Stmt} {f : Addr} {oc : Value} {od an : Option Addr} {osl : Array (Option Value)} {kV doc pm cdv ct : Value} (X : K.In h) (Ns : h.Ns mainGlobals mg) (ok : okH N ps st = true)
  (a : PySem.W.nsIn K mainGlobals q0U = some (some (.ref f))) (l : K.lookup f = some ⟨oc, od, .func (PySem.W.fnOf q0U q0U (q0v st) (q0p st) (q0c st) .none kV doc pm an cdv ct), osl⟩)
  (c : PySem.W.codeIn K cdv q0U = true) (k : PySem.W.keepIn K (.ref f) = true)
  (hb : ∀ (kV doc pm : Value) (an : Option Addr) (cdv ct : Value) (us : List Value), us.length = ps.length -> bindArgs (PySem.W.fnOf q0U q0U (q0v st) (q0p st) (q0c st) .none kV doc pm an cdv ct) ⟨us, []⟩ = pure (ps.zip us)) :
  HStands K mg f (PySem.W.fnOf q0U q0U (q0v st) (q0p st) (q0c st) .none kV doc pm an cdv ct) ps := by
 unfold okH at ok
 simp only [Bool.and_eq_true, beq_iff_eq, Bool.not_eq_true', List.all_eq_true, Bool.or_eq_true, beq_eq_false_iff_ne] at ok
 obtain ⟨⟨⟨⟨⟨⟨⟨⟨⟨h1, h2⟩, h3⟩, h4⟩, h5⟩, h6⟩, h7⟩, h8⟩, h9⟩, h10⟩ := ok
 exact ⟨PySem.W.mg_of X Ns a, k, .all (hb kV doc pm an cdv ct), h9, q0U, st, N, ⟨oc, od, .none, kV, doc, pm, an, cdv, ct, osl, rfl, l, c⟩, ⟨h1, h2, h3, q1B h4, h5, h6, h7⟩, h8, h10⟩
noncomputable def HS (K : PySem.W.Frag) (mg : Str -> Option Value) (fn bl cl : List Str) (T : List FD) (fs : List Str) : Prop := ∀ (i : Nat) d x, T[i]? = some d -> fs[i]? = some x -> ∃ fa fd ps, Stands K mg fn bl cl d x fa fd ps
theorem z4p {fs : List Str} : HS K mg fn bl cl [] fs := λ i d x h => by cases h
theorem q1v {d : FD} {x : Str} {fs : List Str} {fa : Addr} {fd : FuncData} {ps : List Str} (h : Stands K mg fn bl cl d x fa fd ps) (t : HS K mg fn bl cl T fs) : HS K mg fn bl cl (d :: T) (x :: fs) := λ i d' x' h1 h2 => by
 cases i with
 | zero => cases h1; cases h2; exact ⟨_, _, _, h⟩
 | succ i => exact t i d' x' h1 h2
theorem z4h {H : Hp} : L2.wo [] H = H := by
 funext b
 unfold L2.wo
 simp
noncomputable def HC (K : PySem.W.Frag) (mg : Str -> Option Value) (c : List (Str × DV)) : Prop := ∀ x d, c.lookup x = some d -> ∃ u v, mg x = some u /\ RelV v u /\ ∀ H, Rep ⟨K, mg⟩ H d v
theorem z1F : HC K mg [] := λ x d h => by cases h
theorem z5j {c : List (Str × DV)} {y : Str} {d : DV} (h : ∃ u v, mg y = some u /\ RelV v u /\ ∀ H, Rep ⟨K, mg⟩ H d v) (t : HC K mg c) : HC K mg ((y, d) :: c) := λ x d' q => by
 rw [List.lookup_cons] at q
 split at q
 ·rename_i e
  cases q
  rw [eq_of_beq e]
  exact h
 ·exact t x d' q
noncomputable def OneL (K : PySem.W.Frag) (mg : Str -> Option Value) (G : Gs) (cl : List Str) (l : List (Str × List Str)) : Prop := ∀ c, (l.lookup c).isSome = true -> ∃ C, XOne K mg G cl c C
theorem z1U {cl : List Str} : OneL K mg G cl [] := λ c h => by cases h
theorem z5k {cl : List Str} {c : Str} {b : List Str} {l : List (Str × List Str)} (h : ∃ C, XOne K mg G cl c C) (t : OneL K mg G cl l) : OneL K mg G cl ((c, b) :: l) := λ c' q => by
 rw [List.lookup_cons] at q
 split at q
 ·rename_i e
  rw [eq_of_beq e]
  exact h
 ·exact t c' q
noncomputable def AllL (mg : Str -> Option Value) (l : List Str) : Prop := ∀ t ∈ l, ∃ Ct, mg t = some (.ref Ct)
theorem z2v : AllL mg [] := λ t h => by cases h
theorem all_cons {t : Str} {l : List Str} (h : ∃ Ct, mg t = some (.ref Ct)) (r : AllL mg l) : AllL mg (t :: l) := λ t' q => by
 rcases List.mem_cons.mp q with e | e
 ·rw [e]; exact h
 ·exact r t' e
noncomputable def OwnL (K : PySem.W.Frag) (mg : Str -> Option Value) (G : Gs) (c : Str) (C : Addr) (l : List Str) : Prop := ∀ t ∈ l, ∀ Ct, mg t = some (.ref Ct) -> PySem.W.kitOne K (.ref C) (.ref Ct) = some (q2z G c t) /\ (q2z G c t = true -> PySem.W.exmOne K (.ref C) (.ref Ct) = some true)
theorem z5H {c : Str} {C : Addr} : OwnL K mg G c C [] := λ t h => by cases h
theorem z5g {c t : Str} {C Ct : Addr} {l : List Str} (m : mg t = some (.ref Ct)) (h : PySem.W.kitOne K (.ref C) (.ref Ct) = some (q2z G c t) /\ (q2z G c t = true -> PySem.W.exmOne K (.ref C) (.ref Ct) = some true)) (r : OwnL K mg G c C l) : OwnL K mg G c C (t :: l) := λ t' q Ct' m' => by
 rcases List.mem_cons.mp q with e | e
 ·subst e
  cases m.symm.trans m'
  exact h
 ·exact r t' e Ct' m'
noncomputable def spS (K : PySem.W.Frag) : Sp := λ vs H Q _ => ∃ (a : Addr) (ns : List Int), vs = [.ref a] /\ ns.length <= 63 /\ SqS K H a (ns.map V.int) /\ ∀ H', Q (.bl true) H'
noncomputable def DCL (K : PySem.W.Frag) (w : World) (mg : Str -> Option Value) (l : List (Str × List (Str × Str))) : Prop := ∀ x kvs, l.lookup x = some kvs -> q8C K w mg x kvs
theorem z1p {w : World} : DCL K w mg [] := λ x kvs h => by cases h
theorem z5h {w : World} {y : Str} {kv : List (Str × Str)} {l : List (Str × List (Str × Str))} (h : q8C K w mg y kv) (t : DCL K w mg l) : DCL K w mg ((y, kv) :: l) := λ x kvs q => by
 rw [List.lookup_cons] at q
 split at q
 ·rename_i e
  cases q
  rw [beq_iff_eq.mp e]
  exact h
 ·exact t x kvs q
noncomputable def KVL (K : PySem.W.Frag) (a : Addr) (l : List (Str × Str)) : Prop := ∀ k v, l.lookup k = some v -> v.length <= sizeLine /\ ∃ t, PySem.W.nsIn K a k = some (some (.str v t))
theorem z6l {a : Addr} : KVL K a [] := λ k v h => by cases h
theorem z5i {a : Addr} {k v : Str} {t : Tok} {l : List (Str × Str)} (h1 : v.length <= sizeLine) (h2 : PySem.W.nsIn K a k = some (some (.str v t))) (r : KVL K a l) : KVL K a ((k, v) :: l) := λ k' v' q => by
 rw [List.lookup_cons] at q
 split at q
 ·rename_i e
  cases q
  rw [beq_iff_eq.mp e]
  exact ⟨h1, t, h2⟩
 ·exact r k' v' q
theorem q9t {k i : Nat} {d : FD} {x p : Str} {fa : Addr} {fd : FuncData} (hT : T.length = fn.length) (hs : HS K mg fn bl cl T fn) (hbl : ∀ x ∈ bl, mg x = none) (hxf : XFacts K mg G cl)
  (hcon : ∀ x d, G.con.lookup x = some d -> ∃ u v, mg x = some u /\ RelV v u /\ ∀ H, Rep ⟨K, mg⟩ H d v) (hdc : ∀ x kvs, G.dcs.lookup x = some kvs -> q8C K w mg x kvs) (hdf : DfOk G T) (hh : G.hun = true -> T.length <= q4y /\ ∃ fa fd ps, mg q0U = some (.ref fa) /\ PySem.W.keepIn K (.ref fa) = true /\ q2w K fd ps [] /\ ∀ k, FnOk P w K mg base (CXx P w base) k fa fd ps (spH ⟨K, mg⟩ (q5r k))) (h1 : T[i]? = some d) (h2 : fn[i]? = some x) (S : Stands K mg fn bl cl d x fa fd [p])
  (law : ∀ ns : List Int, ns.length <= 63 -> run G T fu k i [.scr ns] = some (.v (.bl true) false)) : FnOk P w K mg base CX0 k fa fd [p] (spS K) := by
 have R := z0O (P := P) (w := w) (base := base) (fu := fu) hT hs hbl hxf hcon hdc hdf hh k i d x fa fd [p] h1 h2 S
 refine ⟨λ vs H Q E h => ?_, λ A outer s H args us vs Q E hr he hb hv h => ?_⟩
 ·obtain ⟨a, ns, rfl, _⟩ := h
  rfl
 ·obtain ⟨a, ns, rfl, hl, hS, hq⟩ := h
  refine codeAny_mono (R.run A outer s H args us [.ref a] Q E0 hr he hb hv ⟨[], [.scr ns], _, (λ a ha => (nomatch ha)), rfl, ?_, law ns hl, λ v H' _ g => ?_⟩) λ r s' q => ?_
  ·refine RepL.one (q1G.mpr ⟨a, rfl, ?_⟩)
   rw [z4h]
   exact hS
  ·have g' : Rep ⟨K, mg⟩ (L2.wo [] H') (.bl true) v := g
   rw [q3p] at g'
   subst g'
   exact hq H'
  ·cases r with
   | error e =>
    obtain ⟨_, _, _, _, _, _, _, _, _, _, z⟩ := (q : CXx P w base outer H s E0 e s')
    exact z.elim
   | ok fl => cases fl <;> first | exact False.elim q | exact q
end
theorem walkE {l : PySem.W.OpenLaw} {q : Program} {loose : List Str} {XP : (Str -> Option Value) -> Heap -> Prop} {YP : World -> Heap -> Prop} {d : DefRec} {K : Params -> PySem.W.Frag} {k : Nat} {p : Str} (hn : l.most = some 63) (hdf : d.params.defaults = []) (hr : Room k callerA)
  (hY : ∀ (w : World) (h : Heap), YP w h -> (K w.params).In h)
  (F : ∀ (w : World) (mg : Str -> Option Value) (fa : Addr) (h : Heap), (K w.params).In h -> h.Ns mainGlobals mg -> mg d.name = some (.ref fa) ->
   ∃ fd : FuncData, (∀ (s : Shared) (u : Value), BindsTo s fd ⟨[u], []⟩ [(p, u)]) /\ ∀ base : Heap, (K w.params).In base -> base.Ns mainGlobals mg -> FnOk l.prog w (K w.params) mg base CX0 k fa fd [p] (spS (K w.params))) :
  PySem.W.WalkO q loose XP YP l.row.toRowW d [] (λ f vs => PySem.call f vs) :=
 L2.walk_of (n := 63) (k := k) (x := p) (CX := λ _ => CX0) (sp := λ w => spS (K w.params)) hn (by decide) hdf hr hY F (λ _ _ a ns hl hO hS => ⟨a, ns, rfl, hl, SqS.of hO hS, λ _ => rfl⟩) λ _ _ _ _ _ z => z
end L2
end
section
namespace k41
variable {α β : Type}
noncomputable def alt (f : α -> List α -> Int) : List α -> Int
 | [] => 0
 | c :: cs => f c cs - alt (λ d ds => f d (c :: ds)) cs
theorem q0O {f g : α -> List α -> Int} : ∀ {cs : List α}, (∀ d ds, ds.length + 1 = cs.length -> f d ds = g d ds) -> alt f cs = alt g cs
 | [], _ => rfl
 | c :: cs, h => by
  unfold alt
  rw [h c cs rfl, q0O (cs := cs) λ d ds hd => h d (c :: ds) (by rw [List.length_cons, List.length_cons]; omega)]
theorem q4G {f g : α -> List α -> Int} : ∀ {cs : List α}, alt (λ d ds => f d ds - g d ds) cs = alt f cs - alt g cs
 | [] => rfl
 | c :: cs => by unfold alt; rw [q4G]; omega
theorem q2t {f : α -> List α -> Int} (t : Int) : ∀ {cs : List α}, alt (λ d ds => t * f d ds) cs = t * alt f cs
 | [] => by unfold alt; omega
 | c :: cs => by unfold alt; rw [q2t t, Int.mul_sub]
theorem q6m : ∀ {cs : List α}, alt (λ _ _ => 0) cs = 0
 | [] => rfl
 | c :: cs => by unfold alt; rw [q6m]; rfl
theorem q6i {F : α -> List α -> β -> List β -> Int} : ∀ {cs : List α} {rs : List β}, alt (λ d ds => alt (λ s ss => F d ds s ss) rs) cs = alt (λ s ss => alt (λ d ds => F d ds s ss) cs) rs
 | [], rs => by
  show 0 = alt (λ s ss => 0) rs
  rw [q6m]
 | c :: cs, rs => by
  show alt (λ s ss => F c cs s ss) rs - alt (λ d ds => alt (λ s ss => F d (c :: ds) s ss) rs) cs = alt (λ s ss => F c cs s ss - alt (λ d ds => F d (c :: ds) s ss) cs) rs
  rw [q4G, q6i (cs := cs)]
theorem q8F (h : β -> α) {f : α -> List α -> Int} : ∀ {l : List β}, alt f (l.map h) = alt (λ b bs => f (h b) (bs.map h)) l
 | [] => rfl
 | b :: l => by
  show f (h b) (l.map h) - alt (λ d ds => f d (h b :: ds)) (l.map h) = f (h b) (l.map h) - alt (λ d ds => f (h d) ((b :: ds).map h)) l
  rw [q8F h (l := l)]
  rfl
theorem q5W {F : α -> α -> List α -> Int} : ∀ {cs : List α}, alt (λ d ds => alt (λ d' ds' => F d d' ds') ds) cs = - alt (λ d ds => alt (λ d' ds' => F d' d ds') ds) cs
 | [] => rfl
 | c :: cs => by
  show alt (λ d' ds' => F c d' ds') cs - alt (λ d ds => F d c ds - alt (λ d' ds' => F d d' (c :: ds')) ds) cs = - (alt (λ d' ds' => F d' c ds') cs - alt (λ d ds => F c d ds - alt (λ d' ds' => F d' d (c :: ds')) ds) cs)
  rw [q4G, q4G, q5W (F := λ d d' ds' => F d d' (c :: ds')) (cs := cs)]
  exact (by intro p q r; omega : ∀ p q r : Int, p - (q - -r) = -(q - (p - r))) _ _ _
noncomputable abbrev Rw := Nat -> Int
noncomputable def dt : List Rw -> List Nat -> Int
 | [], _ => 1
 | r :: rs, cs => alt (λ d ds => r d * dt rs ds) cs
noncomputable def et : List Rw -> List Nat -> Int
 | _, [] => 1
 | rs, c :: cs => alt (λ s ss => s c * et ss cs) rs
theorem q8y : ∀ (n : Nat) (rs : List Rw) (cs : List Nat), rs.length = n -> cs.length = n -> dt rs cs = et rs cs
 | 0, rs, cs, h1, h2 => by
  rw [List.length_eq_zero_iff.mp h1, List.length_eq_zero_iff.mp h2]
  rfl
 | n + 1, r :: rs, c :: cs, h1, h2 => by
  have l1 : rs.length = n := Nat.succ.inj h1
  have l2 : cs.length = n := Nat.succ.inj h2
  show r c * dt rs cs - alt (λ d ds => r d * dt rs (c :: ds)) cs = r c * et rs cs - alt (λ s ss => s c * et (r :: ss) cs) rs
  rw [q8y n rs cs l1 l2]
  have e1 : alt (λ d ds => r d * dt rs (c :: ds)) cs = alt (λ d ds => alt (λ s ss => r d * (s c * dt ss ds)) rs) cs := q0O λ d ds hd => by
   rw [q8y n rs (c :: ds) l1 (by rw [List.length_cons]; omega)]
   show r d * alt (λ s ss => s c * et ss ds) rs = _
   rw [← q2t]
   refine q0O λ s ss hs => ?_
   obtain ⟨m, rfl⟩ : ∃ m, n = m + 1 := ⟨n - 1, by omega⟩
   rw [q8y m ss ds (by omega) (by omega)]
  have e2 : alt (λ s ss => s c * et (r :: ss) cs) rs = alt (λ s ss => alt (λ d ds => r d * (s c * dt ss ds)) cs) rs := q0O λ s ss hs => by
   rw [← q8y n (r :: ss) cs (by rw [List.length_cons]; omega) l2]
   show s c * alt (λ d ds => r d * dt ss ds) cs = _
   rw [← q2t]
   exact q0O λ d ds hd => by rw [Int.mul_left_comm]
  rw [e1, e2, q6i]
 | n + 1, [], cs, h1, h2 => by cases h1
 | n + 1, r :: rs, [], h1, h2 => by cases h2
theorem q8M (M : Nat -> Nat -> Int) : ∀ (cs is : List Nat), dt (cs.map λ j i => M i j) is = et (is.map λ i j => M i j) cs
 | [], is => rfl
 | c :: cs, is => by
  show alt (λ d ds => M d c * dt (cs.map λ j i => M i j) ds) is = alt (λ s ss => s c * et ss cs) (is.map λ i j => M i j)
  rw [q8F]
  exact q0O λ d ds _ => by rw [q8M M cs ds]
theorem z5K (M : Nat -> Nat -> Int) (cs is : List Nat) (h : cs.length = is.length) : dt (cs.map λ j i => M i j) is = dt (is.map λ i j => M i j) cs := by
 rw [q8M, q8y is.length (is.map λ i j => M i j) cs (by rw [List.length_map]) h]
theorem q4T {P Q : List Rw} {t : Int} (h : ∀ cs, dt P cs = t * dt Q cs) : ∀ (A : List Rw) (cs : List Nat), dt (A ++ P) cs = t * dt (A ++ Q) cs
 | [], cs => h cs
 | a :: A, cs => by
  show alt (λ d ds => a d * dt (A ++ P) ds) cs = t * alt (λ d ds => a d * dt (A ++ Q) ds) cs
  rw [← q2t]
  exact q0O λ d ds _ => by rw [q4T h A ds, Int.mul_left_comm]
theorem z0q (a b : Rw) (C : List Rw) (cs : List Nat) : dt (a :: b :: C) cs = -1 * dt (b :: a :: C) cs := by
 show alt (λ d ds => a d * alt (λ d' ds' => b d' * dt C ds') ds) cs = -1 * alt (λ d ds => b d * alt (λ d' ds' => a d' * dt C ds') ds) cs
 have e1 : alt (λ d ds => a d * alt (λ d' ds' => b d' * dt C ds') ds) cs = alt (λ d ds => alt (λ d' ds' => a d * (b d' * dt C ds')) ds) cs := q0O λ d ds _ => by rw [q2t]
 have e2 : alt (λ d ds => b d * alt (λ d' ds' => a d' * dt C ds') ds) cs = alt (λ d ds => alt (λ d' ds' => a d' * (b d * dt C ds')) ds) cs := q0O λ d ds _ => by
  rw [← q2t]
  exact q0O λ d' ds' _ => by rw [Int.mul_left_comm]
 rw [e1, e2, q5W]
 omega
theorem q5C (a : Rw) : ∀ (B C : List Rw) (cs : List Nat), dt (a :: (B ++ C)) cs = (-1) ^ B.length * dt (B ++ a :: C) cs
 | [], C, cs => by show dt (a :: C) cs = 1 * dt (a :: C) cs; rw [Int.one_mul]
 | b :: B, C, cs => by
  show dt (a :: b :: (B ++ C)) cs = (-1) ^ (B.length + 1) * dt ([b] ++ (B ++ a :: C)) cs
  rw [z0q, show b :: a :: (B ++ C) = [b] ++ (a :: (B ++ C)) from rfl, q4T (q5C a B C) [b] cs, Int.pow_succ, ← Int.mul_assoc]
  congr 1
  rw [Int.mul_comm]
theorem z1c (A B C : List Rw) (x y : Rw) (cs : List Nat) : dt (A ++ y :: (B ++ x :: C)) cs = - dt (A ++ x :: (B ++ y :: C)) cs := by
 have h : ∀ cs, dt (y :: (B ++ x :: C)) cs = -1 * dt (x :: (B ++ y :: C)) cs := λ cs => by
  rw [q5C y B (x :: C) cs, q5C x B (y :: C) cs, q4T (z0q y x C) B cs, ← Int.mul_assoc, ← Int.mul_assoc, Int.mul_comm ((-1) ^ B.length) (-1)]
 rw [q4T h A cs]
 omega
theorem q9q (A C : List Rw) (x : Rw) (t : Int) (cs : List Nat) : dt (A ++ (λ c => t * x c) :: C) cs = t * dt (A ++ x :: C) cs := by
 refine q4T (λ cs => ?_) A cs
 show alt (λ d ds => t * x d * dt C ds) cs = t * alt (λ d ds => x d * dt C ds) cs
 rw [← q2t]
 exact q0O λ d ds _ => by rw [Int.mul_assoc]
end k41
end
section
namespace k41
noncomputable def sg (k : Nat) : Int := if k % 2 = 0 then 1 else -1
theorem q8o (k : Nat) : sg (k + 1) = - sg k := by
 unfold sg
 by_cases h : k % 2 = 0
 ·rw [if_pos h, if_neg (by omega)]
 ·rw [if_neg h, if_pos (by omega)]; rfl
theorem q3E {α : Type} {f : α -> Int} (t : Int) : ∀ {l : List α}, (l.map λ a => t * f a).sum = t * (l.map f).sum
 | [] => by simp
 | a :: l => by simp only [List.map_cons, List.sum_cons]; rw [q3E t, Int.mul_add]
theorem q3J {α : Type} {f : α -> Int} : ∀ {l : List α}, (l.map λ a => - f a).sum = - (l.map f).sum
 | [] => by simp
 | a :: l => by simp only [List.map_cons, List.sum_cons]; rw [q3J]; omega
theorem q5u : ∀ (l : List Nat) (f : Nat -> List Nat -> Int), alt f l = ((List.range l.length).map λ k => sg k * f (l.getD k 0) (l.eraseIdx k)).sum
 | [], f => rfl
 | c :: cs, f => by
  show f c cs - alt (λ d ds => f d (c :: ds)) cs = _
  rw [q5u cs, List.length_cons, List.range_succ_eq_map, List.map_cons, List.sum_cons, List.map_map]
  show _ = sg 0 * f c cs + ((List.range cs.length).map λ k => sg (k + 1) * f (cs.getD k 0) (c :: cs.eraseIdx k)).sum
  have e : ((List.range cs.length).map λ k => sg (k + 1) * f (cs.getD k 0) (c :: cs.eraseIdx k)) = (List.range cs.length).map λ k => - (sg k * f (cs.getD k 0) (c :: cs.eraseIdx k)) := by
   apply List.map_congr_left
   intro k _
   rw [q8o, Int.neg_mul]
  rw [e, q3J, show sg 0 = 1 from rfl, Int.one_mul]
  omega
theorem q6B (g : Nat -> Int) : ∀ (l : List Nat), (l.map g).sum = ((List.range l.length).map λ k => g (l.getD k 0)).sum
 | [] => rfl
 | c :: cs => by
  rw [List.map_cons, List.sum_cons, List.length_cons, List.range_succ_eq_map, List.map_cons, List.sum_cons, List.map_map, q6B g cs]
  rfl
theorem q4k {p : Nat -> Bool} {g : Nat -> Int} : ∀ (l : List Nat), (l.map λ c => if p c = true then 0 else g c).sum = ((l.filter λ c => !p c).map g).sum
 | [] => rfl
 | c :: l => by
  rw [List.map_cons, List.sum_cons, q4k l]
  cases h : p c with
  | true => rw [List.filter_cons_of_neg (by rw [h]; decide)]; simp
  | false => rw [List.filter_cons_of_pos (by rw [h]; decide), List.map_cons, List.sum_cons]; simp
noncomputable def q2u (n T : Nat) : List Nat := (List.range n).filter λ c => !T.testBit c
noncomputable def par : Nat -> Nat -> Int
 | 0, _ => 1
 | f + 1, g => if g = 0 then 1 else if g % 2 = 1 then - par f (g / 2) else par f (g / 2)
noncomputable def tsgn (T c : Nat) : Int := par 6 (T / 2 ^ (c + 1))
noncomputable def cnt (n T : Nat) : Nat := ((List.range n).map λ t => if T.testBit t then ((List.range t).filter λ u => !T.testBit u).length else 0).sum
noncomputable def eps (n T : Nat) : Int := sg (cnt n T)
noncomputable def okK (n T k : Nat) : Bool := let l := q2u n T; let c := l.getD k 0
 (tsgn T c * eps n (T + 2 ^ c) == eps n T * sg k) && (l.eraseIdx k == q2u n (T + 2 ^ c)) && decide (T + 2 ^ c < 2 ^ n)
theorem z1O : ((List.range 7).all λ n => (List.range (2 ^ n)).all λ T => ((List.range (q2u n T).length).all λ k => okK n T k) && (!(q2u n T).isEmpty || (decide (T = 2 ^ n - 1) && eps n T == 1))) = true := by decide +kernel
theorem chk {n T : Nat} (hn : n <= 6) (hT : T < 2 ^ n) : (∀ k, k < (q2u n T).length -> okK n T k = true) /\ (q2u n T = [] -> T = 2 ^ n - 1 /\ eps n T = 1) := by
 have h1 := List.all_eq_true.mp z1O n (List.mem_range.mpr (by omega))
 have h2 := List.all_eq_true.mp h1 T (List.mem_range.mpr hT)
 rw [Bool.and_eq_true] at h2
 refine ⟨λ k hk => List.all_eq_true.mp h2.1 k (List.mem_range.mpr hk), λ e => ?_⟩
 have h3 := h2.2
 rw [e] at h3
 simpa using h3
noncomputable def psi (n : Nat) : List Rw -> Nat -> Int
 | [], T => if T = 2 ^ n - 1 then 1 else 0
 | r :: rs, T => ((List.range n).map λ c => if T.testBit c = true then 0 else tsgn T c * r c * psi n rs (T + 2 ^ c)).sum
theorem z0I {n : Nat} (hn : n <= 6) : ∀ (rs : List Rw) (T : Nat), T < 2 ^ n -> (q2u n T).length = rs.length -> psi n rs T = eps n T * dt rs (q2u n T)
 | [], T, hT, hl => by
  obtain ⟨e1, e2⟩ := (chk hn hT).2 (List.length_eq_zero_iff.mp hl)
  show (if T = 2 ^ n - 1 then 1 else 0) = eps n T * 1
  rw [if_pos e1, e2]
  rfl
 | r :: rs, T, hT, hl => by
  show ((List.range n).map λ c => if T.testBit c = true then 0 else tsgn T c * r c * psi n rs (T + 2 ^ c)).sum = eps n T * alt (λ d ds => r d * dt rs ds) (q2u n T)
  rw [q4k (p := λ c => T.testBit c), show (List.range n).filter (λ c => !T.testBit c) = q2u n T from rfl, q6B, q5u, ← q3E]
  congr 1
  apply List.map_congr_left
  intro k hk
  have hk' := List.mem_range.mp hk
  have ok := (chk hn hT).1 k hk'
  unfold okK at ok
  simp only [Bool.and_eq_true, beq_iff_eq, decide_eq_true_eq] at ok
  obtain ⟨⟨o1, o2⟩, o3⟩ := ok
  have hlen : (q2u n (T + 2 ^ (q2u n T).getD k 0)).length = rs.length := by
   rw [← o2, List.length_eraseIdx, if_pos hk', hl, List.length_cons]
   rfl
  rw [z0I hn rs _ o3 hlen, ← o2]
  generalize (q2u n T).getD k 0 = c at o1 ⊢
  generalize dt rs ((q2u n T).eraseIdx k) = D
  have g1 : tsgn T c * r c * (eps n (T + 2 ^ c) * D) = (tsgn T c * eps n (T + 2 ^ c)) * (r c * D) := by
   rw [Int.mul_assoc, Int.mul_assoc, Int.mul_left_comm (r c)]
  rw [g1, o1, Int.mul_assoc]
theorem z2M {n : Nat} (hn : n <= 6) (rs : List Rw) (h : rs.length = n) : psi n rs 0 = dt rs (List.range n) := by
 have e : ∀ n, n <= 6 -> q2u n 0 = List.range n /\ eps n 0 = 1 := by decide +kernel
 rw [z0I hn rs 0 (Nat.two_pow_pos n) (by rw [(e n hn).1, List.length_range, h]), (e n hn).1, (e n hn).2, Int.one_mul]
noncomputable abbrev Tb := List (Int × Int)
noncomputable def lin (L : Tb) (φ : Nat -> Int) : Int := (L.map λ p => p.2 * φ p.1.toNat).sum
noncomputable def getL (L : Tb) (k : Int) : Int := ((L.find? λ p => decide (p.1 = k)).map (·.2)).getD 0
noncomputable def putT (L : Tb) (k z : Int) : Tb := if (L.any λ p => decide (p.1 = k)) = true then L.map (λ p => if p.1 = k then (p.1, z) else p) else L ++ [(k, z)]
noncomputable def keys (L : Tb) : List Int := L.map (·.1)
theorem q6e {L : Tb} {k : Int} : (L.any λ p => decide (p.1 = k)) = true ↔ k ∈ keys L := by
 unfold keys
 rw [List.any_eq_true, List.mem_map]
 constructor
 ·rintro ⟨p, h1, h2⟩; exact ⟨p, h1, of_decide_eq_true h2⟩
 ·rintro ⟨p, h1, h2⟩; exact ⟨p, h1, decide_eq_true h2⟩
theorem q3j {L : Tb} {k z : Int} : keys (putT L k z) = if k ∈ keys L then keys L else keys L ++ [k] := by
 unfold putT
 by_cases h : k ∈ keys L
 ·rw [if_pos (q6e.mpr h), if_pos h]
  unfold keys
  rw [List.map_map]
  apply List.map_congr_left
  intro p _
  show (if p.1 = k then (p.1, z) else p).1 = p.1
  split <;> rfl
 ·rw [if_neg (λ z => h (q6e.mp z)), if_neg h]
  unfold keys
  rw [List.map_append]
  rfl
theorem q8t {L : Tb} {k z : Int} (h : (keys L).Nodup) : (keys (putT L k z)).Nodup := by
 rw [q3j]
 split
 ·exact h
 ·rename_i hk
  rw [List.nodup_append]
  exact ⟨h, by simp, λ a ha b hb e => hk (by rw [← List.mem_singleton.mp hb, ← e]; exact ha)⟩
theorem z1o {L : Tb} {k z : Int} : (putT L k z).length <= L.length + 1 := by
 unfold putT
 split
 ·rw [List.length_map]; omega
 ·rw [List.length_append]; exact Nat.le_refl _
theorem q8P {φ : Nat -> Int} {k w : Int} : ∀ {L : Tb}, (keys L).Nodup -> lin (putT L k (getL L k + w)) φ = lin L φ + w * φ k.toNat
 | [], _ => by
  show ((0 + w) * φ k.toNat + 0 : Int) = 0 + w * φ k.toNat
  rw [Int.zero_add, Int.zero_add, Int.add_zero]
 | (k1, v1) :: L, h => by
  have hn : k1 ∉ keys L /\ (keys L).Nodup := List.nodup_cons.mp h
  by_cases e : k1 = k
  ·subst e
   have h1 : putT ((k1, v1) :: L) k1 (getL ((k1, v1) :: L) k1 + w) = (k1, v1 + w) :: L := by
    have g : getL ((k1, v1) :: L) k1 = v1 := by unfold getL; rw [List.find?_cons]; simp
    rw [g]
    unfold putT
    rw [if_pos (by simp)]
    rw [List.map_cons, if_pos rfl]
    congr 1
    have : ∀ p ∈ L, (if p.1 = k1 then (p.1, v1 + w) else p) = p := λ p hp => if_neg λ z => hn.1 (by rw [← z]; exact List.mem_map.mpr ⟨p, hp, rfl⟩)
    exact (List.map_congr_left this).trans (List.map_id' L)
   rw [h1]
   show (v1 + w) * φ k1.toNat + lin L φ = v1 * φ k1.toNat + lin L φ + w * φ k1.toNat
   rw [Int.add_mul]
   omega
  ·have h1 : putT ((k1, v1) :: L) k (getL ((k1, v1) :: L) k + w) = (k1, v1) :: putT L k (getL L k + w) := by
    have g : getL ((k1, v1) :: L) k = getL L k := by unfold getL; rw [List.find?_cons_of_neg (by simpa using e)]
    rw [g]
    unfold putT
    rw [List.any_cons, show decide (k1 = k) = false from decide_eq_false e, Bool.false_or]
    split
    ·rw [List.map_cons, if_neg e]
    ·rfl
   rw [h1]
   show v1 * φ k1.toNat + lin (putT L k (getL L k + w)) φ = v1 * φ k1.toNat + lin L φ + w * φ k.toNat
   rw [q8P hn.2]
   omega
theorem q9Y {L : Tb} {k z j : Int} (h : j ∈ keys L) : j ∈ keys (putT L k z) := by
 rw [q3j]
 split
 ·exact h
 ·exact List.mem_append_left _ h
theorem z4w {L : Tb} {k z : Int} : k ∈ keys (putT L k z) := by
 rw [q3j]
 split
 ·assumption
 ·exact List.mem_append_right _ (List.mem_singleton.mpr rfl)
theorem z2L {L : Tb} {k z j : Int} (h : j ∈ keys (putT L k z)) : j ∈ keys L \/ j = k := by
 rw [q3j] at h
 split at h
 ·exact .inl h
 ·rcases List.mem_append.mp h with z | z
  ·exact .inl z
  ·exact .inr (List.mem_singleton.mp z)
noncomputable def sab (L : Tb) : Nat := (L.map λ p => p.2.natAbs).sum
theorem q7P {k w : Int} : ∀ {L : Tb}, (keys L).Nodup -> sab (putT L k (getL L k + w)) <= sab L + w.natAbs
 | [], _ => by
  show (0 + w).natAbs + 0 <= 0 + w.natAbs
  rw [Int.zero_add]; omega
 | (k1, v1) :: L, h => by
  have hn : k1 ∉ keys L /\ (keys L).Nodup := List.nodup_cons.mp h
  by_cases e : k1 = k
  ·subst e
   have h1 : putT ((k1, v1) :: L) k1 (getL ((k1, v1) :: L) k1 + w) = (k1, v1 + w) :: L := by
    have g : getL ((k1, v1) :: L) k1 = v1 := by unfold getL; rw [List.find?_cons]; simp
    rw [g]
    unfold putT
    rw [if_pos (by simp), List.map_cons, if_pos rfl]
    congr 1
    have : ∀ p ∈ L, (if p.1 = k1 then (p.1, v1 + w) else p) = p := λ p hp => if_neg λ z => hn.1 (by rw [← z]; exact List.mem_map.mpr ⟨p, hp, rfl⟩)
    exact (List.map_congr_left this).trans (List.map_id' L)
   rw [h1]
   show (v1 + w).natAbs + sab L <= v1.natAbs + sab L + w.natAbs
   omega
  ·have h1 : putT ((k1, v1) :: L) k (getL ((k1, v1) :: L) k + w) = (k1, v1) :: putT L k (getL L k + w) := by
    have g : getL ((k1, v1) :: L) k = getL L k := by unfold getL; rw [List.find?_cons_of_neg (by simpa using e)]
    rw [g]
    unfold putT
    rw [List.any_cons, show decide (k1 = k) = false from decide_eq_false e, Bool.false_or]
    split
    ·rw [List.map_cons, if_neg e]
    ·rfl
   rw [h1]
   have := q7P (k := k) (w := w) hn.2
   show v1.natAbs + sab (putT L k (getL L k + w)) <= v1.natAbs + sab L + w.natAbs
   omega
theorem z2S {L : Tb} {p : Int × Int} (h : p ∈ L) : p.2.natAbs <= sab L := by
 unfold sab
 induction L with
 | nil => cases h
 | cons q L ih =>
  rw [List.map_cons, List.sum_cons]
  rcases List.mem_cons.mp h with z | z
  ·rw [z]; omega
  ·have := ih z; omega
noncomputable def stp (r : Rw) (T : Nat) (v : Int) (L : Tb) (c : Nat) : Tb := if T.testBit c = true then L else putT L ((T + 2 ^ c : Nat) : Int) (getL L ((T + 2 ^ c : Nat) : Int) + tsgn T c * v * r c)
noncomputable def inn (r : Rw) (T : Nat) (v : Int) (cs : List Nat) (L : Tb) : Tb := cs.foldl (stp r T v) L
noncomputable def wrG (n : Nat) (r : Rw) (Ls L : Tb) : Tb := Ls.foldl (λ L p => inn r p.1.toNat p.2 (List.range n) L) L
noncomputable def Gd (n : Nat) (L : Tb) : Prop := (keys L).Nodup /\ ∀ k ∈ keys L, ∃ T : Nat, k = (T : Int) /\ T < 2 ^ n
theorem q8Z : ∀ f g, par f g = 1 \/ par f g = -1
 | 0, _ => .inl rfl
 | f + 1, g => by
  unfold par
  split
  ·exact .inl rfl
  ·rcases q8Z f (g / 2) with h | h <;> rw [h] <;> split <;> simp
theorem q4E (T c : Nat) : tsgn T c = 1 \/ tsgn T c = -1 := q8Z _ _
theorem z5e {n T c : Nat} (hn : n <= 6) (hT : T < 2 ^ n) (hc : c < n) (h : ¬ T.testBit c = true) : T + 2 ^ c < 2 ^ n := by
 have e : ((List.range 7).all λ n => (List.range (2 ^ n)).all λ T => (List.range n).all λ c => T.testBit c || decide (T + 2 ^ c < 2 ^ n)) = true := by decide +kernel
 have h1 := List.all_eq_true.mp e n (List.mem_range.mpr (by omega))
 have h2 := List.all_eq_true.mp h1 T (List.mem_range.mpr hT)
 have h3 := List.all_eq_true.mp h2 c (List.mem_range.mpr hc)
 rcases Bool.or_eq_true _ _ ▸ h3 with z | z
 ·exact absurd z h
 ·exact of_decide_eq_true z
theorem z0z {n : Nat} {r : Rw} {T : Nat} {v : Int} {L : Tb} {c : Nat} (hn : n <= 6) (hT : T < 2 ^ n) (hc : c < n) (h : Gd n L) : Gd n (stp r T v L c) := by
 unfold stp
 split
 ·exact h
 ·rename_i hb
  refine ⟨q8t h.1, λ k hk => ?_⟩
  rcases z2L hk with z | z
  ·exact h.2 k z
  ·exact ⟨_, z, z5e hn hT hc hb⟩
theorem z2y {r : Rw} {T : Nat} {v : Int} {L : Tb} {c : Nat} {φ : Nat -> Int} (h : (keys L).Nodup) : lin (stp r T v L c) φ = lin L φ + v * (if T.testBit c = true then 0 else tsgn T c * r c * φ (T + 2 ^ c)) := by
 unfold stp
 split
 ·rw [Int.mul_zero, Int.add_zero]
 ·rw [q8P h, Int.toNat_natCast]
  congr 1
  rw [Int.mul_comm (tsgn T c) v, Int.mul_assoc, Int.mul_assoc, Int.mul_assoc (tsgn T c)]
theorem z2q {r : Rw} {T : Nat} {v : Int} {L : Tb} {c : Nat} (h : (keys L).Nodup) : sab (stp r T v L c) <= sab L + v.natAbs * (r c).natAbs := by
 unfold stp
 split
 ·omega
 ·refine Nat.le_trans (q7P h) (Nat.add_le_add_left ?_ _)
  rw [Int.natAbs_mul, Int.natAbs_mul]
  rcases q4E T c with z | z <;> rw [z] <;> simp
theorem q8c {r : Rw} {T : Nat} {v : Int} {L : Tb} {c : Nat} : (stp r T v L c).length <= L.length + 1 := by
 unfold stp
 split
 ·omega
 ·exact z1o
theorem q5P {n : Nat} {r : Rw} {T : Nat} {v : Int} (hn : n <= 6) (hT : T < 2 ^ n) : ∀ (cs : List Nat) (L : Tb), (∀ c ∈ cs, c < n) -> Gd n L ->
  Gd n (inn r T v cs L) /\ (∀ φ, lin (inn r T v cs L) φ = lin L φ + v * (cs.map λ c => if T.testBit c = true then 0 else tsgn T c * r c * φ (T + 2 ^ c)).sum) /\ sab (inn r T v cs L) <= sab L + v.natAbs * (cs.map λ c => (r c).natAbs).sum /\ (inn r T v cs L).length <= L.length + cs.length /\ (∀ j ∈ keys L, j ∈ keys (inn r T v cs L)) /\ ∀ c ∈ cs, ¬ T.testBit c = true -> ((T + 2 ^ c : Nat) : Int) ∈ keys (inn r T v cs L)
 | [], L, _, h => ⟨h, λ φ => by show lin L φ = lin L φ + v * 0; omega, by show sab L <= sab L + v.natAbs * 0; omega, Nat.le_refl _, λ j hj => hj, λ c hc => absurd hc (List.not_mem_nil)⟩
 | c :: cs, L, hc, h => by
  have hc0 := hc c (List.mem_cons_self ..)
  obtain ⟨a1, a2, a3, a4, a5, a6⟩ := q5P (r := r) (v := v) hn hT cs (stp r T v L c) (λ d hd => hc d (List.mem_cons_of_mem _ hd)) (z0z hn hT hc0 h)
  have s1 : ∀ j ∈ keys L, j ∈ keys (stp r T v L c) := λ j hj => by
   unfold stp
   split
   ·exact hj
   ·exact q9Y hj
  refine ⟨a1, λ φ => ?_, ?_, ?_, λ j hj => a5 j (s1 j hj), λ d hd hb => ?_⟩
  ·show lin (inn r T v cs (stp r T v L c)) φ = _
   rw [a2 φ, z2y h.1, List.map_cons, List.sum_cons, Int.mul_add]
   omega
  ·show sab (inn r T v cs (stp r T v L c)) <= _
   have := z2q (r := r) (T := T) (v := v) (c := c) h.1
   rw [List.map_cons, List.sum_cons, Nat.mul_add]
   omega
  ·show (inn r T v cs (stp r T v L c)).length <= _
   have := q8c (r := r) (T := T) (v := v) (c := c) (L := L)
   rw [List.length_cons]
   omega
  ·rcases List.mem_cons.mp hd with z | z
   ·subst z
    refine a5 _ ?_
    unfold stp
    rw [if_neg hb]
    exact z4w
   ·exact a6 d z hb
theorem z0B {n : Nat} {r : Rw} (hn : n <= 6) : ∀ (Ls L : Tb), (∀ k ∈ keys Ls, ∃ T : Nat, k = (T : Int) /\ T < 2 ^ n) -> Gd n L ->
  Gd n (wrG n r Ls L) /\ (∀ φ, lin (wrG n r Ls L) φ = lin L φ + lin Ls (λ T => ((List.range n).map λ c => if T.testBit c = true then 0 else tsgn T c * r c * φ (T + 2 ^ c)).sum)) /\ sab (wrG n r Ls L) <= sab L + sab Ls * ((List.range n).map λ c => (r c).natAbs).sum /\ (wrG n r Ls L).length <= L.length + Ls.length * n /\ (∀ j ∈ keys L, j ∈ keys (wrG n r Ls L)) /\ ∀ T : Nat, ((T : Nat) : Int) ∈ keys Ls -> ∀ c < n, ¬ T.testBit c = true -> ((T + 2 ^ c : Nat) : Int) ∈ keys (wrG n r Ls L)
 | [], L, _, h => ⟨h, λ φ => by show lin L φ = lin L φ + 0; omega, by show sab L <= sab L + 0 * _; omega, by show L.length <= L.length + 0 * n; omega, λ j hj => hj, λ T hT => absurd hT (List.not_mem_nil)⟩
 | (k, v) :: Ls, L, hk, h => by
  obtain ⟨T, eT, hT⟩ := hk k (List.mem_cons_self ..)
  subst eT
  obtain ⟨b1, b2, b3, b4, b5, b6⟩ := q5P (r := r) (v := v) hn hT (List.range n) L (λ c hc => List.mem_range.mp hc) h
  obtain ⟨a1, a2, a3, a4, a5, a6⟩ := z0B (r := r) hn Ls (inn r T v (List.range n) L) (λ j hj => hk j (List.mem_cons_of_mem _ hj)) b1
  have e : wrG n r ((((T : Nat) : Int), v) :: Ls) L = wrG n r Ls (inn r T v (List.range n) L) := by
   show wrG n r Ls (inn r ((T : Nat) : Int).toNat v (List.range n) L) = _
   rw [Int.toNat_natCast]
  rw [e]
  refine ⟨a1, λ φ => ?_, ?_, ?_, λ j hj => a5 j (b5 j hj), λ T' hT' c hc hb => ?_⟩
  ·rw [a2 φ, b2 φ]
   have e2 : ∀ ψ : Nat -> Int, lin ((((T : Nat) : Int), v) :: Ls) ψ = v * ψ T + lin Ls ψ := λ ψ => by
    show v * ψ ((T : Nat) : Int).toNat + lin Ls ψ = _
    rw [Int.toNat_natCast]
   rw [e2, Int.add_assoc]
  ·show _ <= sab L + (v.natAbs + sab Ls) * _
   rw [Nat.add_mul]
   omega
  ·rw [List.length_range] at b4
   rw [List.length_cons, Nat.add_mul]
   omega
  ·rcases List.mem_cons.mp hT' with z | z
   ·have z' : ((T' : Nat) : Int) = ((T : Nat) : Int) := z
    have : T' = T := Int.ofNat.inj z'
    subst this
    exact a5 _ (b6 c (List.mem_range.mpr hc) hb)
   ·exact a6 T' z c hc hb
end k41
end
section
namespace k41
noncomputable def dets (n : Nat) : List Rw -> Tb -> Tb
 | [], L => L
 | r :: rs, L => dets n rs (wrG n r L [])
theorem z0H {n : Nat} : Gd n [] := ⟨List.nodup_nil, λ k hk => absurd hk (List.not_mem_nil)⟩
theorem wr0 {n : Nat} {r : Rw} {L : Tb} (hn : n <= 6) (h : Gd n L) : Gd n (wrG n r L []) /\ (∀ rs, lin (wrG n r L []) (psi n rs) = lin L (psi n (r :: rs))) /\ sab (wrG n r L []) <= sab L * ((List.range n).map λ c => (r c).natAbs).sum /\ (wrG n r L []).length <= L.length * n /\ ∀ T : Nat, ((T : Nat) : Int) ∈ keys L -> ∀ c < n, ¬ T.testBit c = true -> ((T + 2 ^ c : Nat) : Int) ∈ keys (wrG n r L []) := by
 obtain ⟨a1, a2, a3, a4, a5, a6⟩ := z0B (r := r) hn L [] h.2 z0H
 refine ⟨a1, λ rs => ?_, ?_, ?_, a6⟩
 ·rw [a2 (psi n rs)]
  show 0 + lin L _ = _
  rw [Int.zero_add]
  rfl
 ·have : sab ([] : Tb) = 0 := rfl
  omega
 ·have : ([] : Tb).length = 0 := rfl
  omega
theorem z2n (i : Nat) : ¬ (2 ^ i - 1).testBit i = true := by
 rw [Nat.testBit_two_pow_sub_one]
 simp
theorem q7H {n : Nat} (hn : n <= 6) : ∀ (rs : List Rw) (L : Tb) (i : Nat), Gd n L -> ((2 ^ i - 1 : Nat) : Int) ∈ keys L -> i + rs.length <= n -> Gd n (dets n rs L) /\ lin (dets n rs L) (psi n []) = lin L (psi n rs) /\ ((2 ^ (i + rs.length) - 1 : Nat) : Int) ∈ keys (dets n rs L)
 | [], L, i, h, hk, _ => ⟨h, rfl, hk⟩
 | r :: rs, L, i, h, hk, hl => by
  rw [List.length_cons] at hl
  obtain ⟨a1, a2, a3, a4, a5⟩ := wr0 (r := r) hn h
  have k1 := a5 (2 ^ i - 1) hk i (by omega) (z2n i)
  have e : 2 ^ i - 1 + 2 ^ i = 2 ^ (i + 1) - 1 := by
   have := Nat.two_pow_pos i
   rw [Nat.pow_succ]
   omega
  rw [e] at k1
  obtain ⟨b1, b2, b3⟩ := q7H hn rs (wrG n r L []) (i + 1) a1 k1 (by omega)
  refine ⟨b1, b2.trans (a2 rs), ?_⟩
  rw [show i + (r :: rs).length = i + 1 + rs.length by rw [List.length_cons]; omega]
  exact b3
theorem q7D {K : Nat} : ∀ {L : Tb}, (keys L).Nodup -> (∀ k ∈ keys L, ∃ T : Nat, k = (T : Int)) -> lin L (λ T => if T = K then 1 else 0) = getL L (K : Int)
 | [], _, _ => rfl
 | (k1, v1) :: L, h, hk => by
  have hn : k1 ∉ keys L /\ (keys L).Nodup := List.nodup_cons.mp h
  obtain ⟨T, eT⟩ := hk k1 (List.mem_cons_self ..)
  have ih := q7D (K := K) hn.2 λ k hk' => hk k (List.mem_cons_of_mem _ hk')
  show v1 * (if k1.toNat = K then 1 else 0) + lin L (λ T => if T = K then 1 else 0) = _
  rw [ih]
  subst eT
  rw [Int.toNat_natCast]
  by_cases e : T = K
  ·subst e
   have g : getL ((((T : Nat) : Int), v1) :: L) T = v1 := by unfold getL; rw [List.find?_cons]; simp
   have g2 : getL L ((T : Nat) : Int) = 0 := by
    unfold getL
    rw [List.find?_eq_none.mpr λ p hp => by
     rw [decide_eq_true_eq]
     exact λ z => hn.1 (by rw [← z]; exact List.mem_map.mpr ⟨p, hp, rfl⟩)]
    rfl
   rw [g, g2, if_pos rfl]
   omega
  ·have g : getL ((((T : Nat) : Int), v1) :: L) (K : Int) = getL L (K : Int) := by
    unfold getL
    rw [List.find?_cons_of_neg (by rw [decide_eq_true_eq]; exact λ z => e (Int.ofNat.inj z))]
   rw [g, if_neg e]
   omega
theorem q9X {n : Nat} (hn : n <= 6) (rs : List Rw) (h : rs.length = n) : Gd n (dets n rs [(0, 1)]) /\ ((2 ^ n - 1 : Nat) : Int) ∈ keys (dets n rs [(0, 1)]) /\ getL (dets n rs [(0, 1)]) ((2 ^ n - 1 : Nat) : Int) = dt rs (List.range n) := by
 have g0 : Gd n [(0, 1)] := ⟨by decide, λ k hk => ⟨0, by rw [List.mem_singleton.mp hk]; rfl, Nat.two_pow_pos n⟩⟩
 obtain ⟨b1, b2, b3⟩ := q7H hn rs [(0, 1)] 0 g0 (List.mem_singleton.mpr rfl) (by omega)
 rw [Nat.zero_add, h] at b3
 refine ⟨b1, b3, ?_⟩
 rw [← q7D b1.1 λ k hk => by obtain ⟨T, e, _⟩ := b1.2 k hk; exact ⟨T, e⟩]
 have e : (λ T => if T = 2 ^ n - 1 then (1 : Int) else 0) = psi n [] := rfl
 rw [e, b2]
 show 1 * psi n rs (0 : Int).toNat + 0 = _
 rw [show (0 : Int).toNat = 0 from rfl, z2M hn rs h]
 omega
theorem z0C {B n : Nat} : ∀ (rs : List Rw) (cs : List Nat), (∀ r ∈ rs, ∀ c < n, (r c).natAbs <= B) -> (∀ c ∈ cs, c < n) -> (dt rs cs).natAbs <= (B * (cs.length + 1)) ^ rs.length
 | [], cs, _, _ => by show (1 : Int).natAbs <= 1; decide
 | r :: rs, cs, h, hc => by
  have key : ∀ (cs : List Nat) (f : Nat -> List Nat -> Int) (M : Nat), (∀ d ds, d ∈ cs -> (∀ x ∈ ds, x ∈ cs) -> ds.length + 1 = cs.length -> (f d ds).natAbs <= M) -> (alt f cs).natAbs <= cs.length * M := by
   intro cs
   induction cs with
   | nil => intro f M _; show (0 : Int).natAbs <= _; omega
   | cons c cs ih =>
    intro f M hf
    have h1 := hf c cs (List.mem_cons_self ..) (λ x hx => List.mem_cons_of_mem _ hx) rfl
    have h2 := ih (λ d ds => f d (c :: ds)) M λ d ds h3 h4 h5 => hf d (c :: ds) (List.mem_cons_of_mem _ h3) (λ x hx => by
     rcases List.mem_cons.mp hx with z | z
     ·rw [z]; exact List.mem_cons_self ..
     ·exact List.mem_cons_of_mem _ (h4 x z)) (by rw [List.length_cons, List.length_cons]; omega)
    show (f c cs - alt (λ d ds => f d (c :: ds)) cs).natAbs <= _
    rw [List.length_cons, Nat.add_mul]
    omega
  have k1 := key cs (λ d ds => r d * dt rs ds) (B * (B * (cs.length + 1)) ^ rs.length) λ d ds h3 h4 h5 => by
   rw [Int.natAbs_mul]
   refine Nat.mul_le_mul (h r (List.mem_cons_self ..) d (hc d h3)) (Nat.le_trans (z0C rs ds (λ r' hr' => h r' (List.mem_cons_of_mem _ hr')) λ c hcc => hc c (h4 c hcc)) (Nat.pow_le_pow_left (Nat.mul_le_mul_left _ (by omega)) _))
  show (alt (λ d ds => r d * dt rs ds) cs).natAbs <= _
  rw [List.length_cons, Nat.pow_succ]
  refine Nat.le_trans k1 ?_
  rw [Nat.mul_comm _ (B * (cs.length + 1)), Nat.mul_assoc B, ← Nat.mul_assoc, Nat.mul_comm cs.length B, Nat.mul_assoc]
  exact Nat.mul_le_mul_left _ (Nat.mul_le_mul_right _ (by omega))
theorem z0F {B : Nat} {f : Nat -> Nat} : ∀ (l : List Nat), (∀ c ∈ l, f c <= B) -> (l.map f).sum <= l.length * B
 | [], _ => by simp
 | c :: l, h => by
  rw [List.map_cons, List.sum_cons, List.length_cons, Nat.add_mul]
  have h1 := h c (List.mem_cons_self ..)
  have h2 := z0F l λ d hd => h d (List.mem_cons_of_mem _ hd)
  omega
end k41
end
section
namespace k41
open PySem L2
noncomputable def q1g : FD := { n := 3, np := 1, dfl := [], body := [.set 1 false (.dct 0 (.int 1)), .fo (.one 2) (.var 0) [.set 1 false (.call 1 [.var 1, .var 2])], .ret (.dix (.var 1) (.bin .Sub (.bin .LShift (.int 1) (.bi .len [.var 0])) (.int 1)))] }
noncomputable def q2e : FD := { n := 8, np := 2, dfl := [], body := [.sed 2, .fo (.many [3, 4]) (.itm (.var 0)) [.fo (.many [5, 6]) (.enu (.var 1)) [.iff (.cmp .Eq (.bin .BitAnd (.bin .RShift (.var 3) (.var 5)) (.int 1)) (.int 0)) [.set 7 false (.bin .BitOr (.var 3) (.bin .LShift (.int 1) (.var 5))), .dput 2 (.var 7) (.bin .Add (.dgt 2 (.var 7) (.int 0)) (.bin .Mult (.bin .Mult (.call 2 [.var 3, .var 5]) (.var 4)) (.var 6)))] []]], .retd 2] }
noncomputable def q6F : FD := { n := 4, np := 2, dfl := [], body := [.set 2 false (.int 1), .set 3 false (.bin .RShift (.var 0) (.bin .Add (.var 1) (.int 1))), .wh (.cmp .NotEq (.var 3) (.int 0)) [.iff (.cmp .Eq (.bin .BitAnd (.var 3) (.int 1)) (.int 1)) [.set 2 false (.neg (.var 2))] [], .set 3 false (.bin .RShift (.var 3) (.int 1))], .ret (.var 2)] }
noncomputable def q2f : FD := { n := 1, np := 1, dfl := [], body := [.ret (.and [.isi (.var 0) ["int"], .not (.isi (.var 0) ["bool"])])] }
noncomputable def q1c : FD := { n := 2, np := 2, dfl := [], body := [.iff (.cmp .Lt (.var 1) (.bi .len [.var 0])) [.ret (.ix (.var 0) (.var 1))] [], .ret (.int 0)] }
noncomputable def q1i : FD := { n := 5, np := 2, dfl := [], body := [.set 2 true (.lst []), .set 3 false (.bin .Add (.bin .Mod (.var 0) (.int 2147483647)) (.int 48271)), .fo (.one 4) (.rng [.var 1]) [.set 3 false (.bin .Mod (.bin .Add (.bin .Add (.bin .Mult (.var 3) (.int 48271)) (.bin .Mult (.var 4) (.var 4))) (.int 11)) (.int 2147483647)), .app 2 (.bin .FloorDiv (.var 3) (.int 7))], .ret (.var 2)] }
noncomputable def q1h : FD := { n := 9, np := 1, dfl := [], body := [.set 1 false (.call 5 [.call 4 [.var 0, .int 0], .int 46]), .set 2 false (.bin .Mod (.ix (.var 1) (.int 0)) (.int 7)), .set 3 false (.ix (.lst [.int 19, .bin .Add (.bin .Mult (.int 2) (.bin .Pow (.int 10) (.int 20))) (.int 1)]) (.bin .FloorDiv (.bin .Mod (.ix (.var 1) (.int 1)) (.int 3)) (.int 2))), .set 4 true (.comp (.bin .Sub (.bin .Mod (.var 0) (.var 1)) (.bin .FloorDiv (.var 1) (.int 2))) (.one 0) (.slf (.var 1) (.int 10)) [none, some 3]), .fo (.one 5) (.rng [.bi .min [.bin .Mult (.var 2) (.var 2), .bin .Sub (.bi .len [.var 0]) (.int 2)]]) [.seti 4 (.var 5) (.bin .Sub (.bin .Mod (.ix (.var 0) (.bin .Add (.int 2) (.var 5))) (.var 3)) (.bin .FloorDiv (.var 3) (.int 2)))], .set 6 true (.comp (.sl (.var 1) (.bin .Mult (.var 0) (.var 2)) (.bin .Add (.bin .Mult (.var 0) (.var 2)) (.var 2))) (.one 0) (.rng [.var 2]) [none, some 4, some 2]), .iff (.and [.cmp .Gt (.var 2) (.int 2), .cmp .Eq (.bin .Mod (.ix (.var 1) (.int 2)) (.int 3)) (.int 0)]) [.set 7 false (.ix (.var 6) (.bin .Mod (.ix (.var 1) (.int 3)) (.var 2))), .set 8 false (.ix (.var 6) (.bin .Mod (.ix (.var 1) (.int 4)) (.var 2))), .seti 6 (.bin .Mod (.ix (.var 1) (.int 5)) (.var 2)) (.comp (.bin .Add (.var 0) (.bin .Mult (.var 1) (.bin .Mod (.ix (.var 2) (.int 6)) (.int 2)))) (.many [0, 1]) (.zp (.var 7) (.var 8)) [none, none, some 1])] [], .iff (.and [.cmp .Gt (.var 2) (.int 0), .cmp .Eq (.bin .Mod (.ix (.var 1) (.int 7)) (.int 9)) (.int 0)]) [.seti 6 (.bin .Mod (.ix (.var 1) (.int 8)) (.var 2)) (.bin .Mult (.lst [.int 0]) (.var 2))] [], .ret (.var 6)] }
noncomputable def q1k : FD := { n := 5, np := 2, dfl := [], body := [.iff (.cmp .Eq (.var 0) (.lst [])) [.ret (.int 1)] [], .set 2 false (.int 0), .set 3 false (.int 1), .fo (.one 4) (.rng [.bi .len [.var 1]]) [.iff (.cmp .NotEq (.ix (.ix (.var 0) (.int 0)) (.ix (.var 1) (.var 4))) (.int 0)) [.set 2 false (.bin .Add (.var 2) (.bin .Mult (.bin .Mult (.var 3) (.ix (.ix (.var 0) (.int 0)) (.ix (.var 1) (.var 4)))) (.call 7 [.slf (.var 0) (.int 1), .bin .Add (.slt (.var 1) (.var 4)) (.slf (.var 1) (.bin .Add (.var 4) (.int 1)))])))] [], .set 3 false (.bin .Sub (.int 0) (.var 3))], .ret (.var 2)] }
noncomputable def q1Q : FD := { n := 4, np := 2, dfl := [], body := [.set 2 false (.comp (.bi .list [.var 0]) (.one 0) (.var 0) [none]), .set 3 false (.call 0 [.var 2]), .ret (.and [.call 3 [.var 3], .cmp .Eq (.var 3) (.var 1), .cmp .Eq (.var 2) (.var 0)])] }
noncomputable def q9x : FD := { n := 10, np := 1, dfl := [], body := [.set 1 false (.call 6 [.var 0]), .set 2 false (.bi .len [.var 1]), .set 3 false (.call 7 [.var 1, .bi .lrng [.var 2]]), .iff (.or [.not (.call 8 [.var 1, .var 3]), .not (.call 8 [.lst [], .int 1])]) [.ret (.bl false)] [], .iff (.not (.call 8 [.comp (.comp (.ix (.var 0) (.var 1)) (.one 0) (.var 1) [none, some 0]) (.one 0) (.rng [.var 2]) [none, some 1], .var 3])) [.ret (.bl false)] [], .iff (.cmp .Lt (.var 2) (.int 2)) [.ret (.bl true)] [], .set 4 false (.call 5 [.call 4 [.var 0, .int 1], .int 3]), .set 5 false (.bin .Mod (.ix (.var 4) (.int 0)) (.var 2)), .set 6 false (.bin .Mod (.bin .Add (.bin .Add (.var 5) (.int 1)) (.bin .Mod (.ix (.var 4) (.int 1)) (.bin .Sub (.var 2) (.int 1)))) (.var 2)), .set 7 true (.bi .list [.var 1]), .seti 7 (.var 5) (.ix (.var 1) (.var 6)), .seti 7 (.var 6) (.ix (.var 1) (.var 5)), .set 8 false (.bin .Sub (.bin .Mod (.ix (.var 4) (.int 2)) (.int 11)) (.int 5)), .set 9 true (.bi .list [.var 1]), .seti 9 (.var 5) (.comp (.bin .Mult (.var 1) (.var 0)) (.one 0) (.ix (.var 1) (.var 5)) [none, some 8]), .ret (.and [.call 8 [.var 7, .bin .Sub (.int 0) (.var 3)], .call 8 [.var 9, .bin .Mult (.var 8) (.var 3)]])] }
noncomputable def T : List FD := [q1g, q2e, q6F, q2f, q1c, q1i, q1h, q1k, q1Q, q9x]
noncomputable def G : Gs := { con := [], cls := [] }
end k41
namespace k41
open PySem L2
variable {fu k : Nat} {F : Nat -> List DV -> Option Ou} {δ : List Sv} {ds : List DV} {cl : Cl}
theorem z0t (ns : List Int) (j : Nat) : ∃ v : Int, run G T fu (k + 1) 4 [.scr ns, .int j] = some (.v (.int v) false) := by
 rw [q1X (fd := q1c) rfl rfl]
 unfold q1c
 by_cases h : j < ns.length
 ·refine ⟨ns[j], q3i (q8j (q0P (cl := .strong) ?_) (q2L ?_))⟩
  ·simp [evE, evEs, q0M, q4m, q0L, biOk, biD, lenD, cmpD, h]
  ·simp [evS, evE, q0M, q0L, ixD, q2A, h, Re.thnS, frD, retD, Cl.item]
 ·refine ⟨0, q3i (q1R (q0P (cl := .strong) ?_) (q2L rfl))⟩
  simp [evE, evEs, q0M, q4m, q0L, biOk, biD, lenD, cmpD]
  omega
theorem q9T (xs : List Int) (v : Int) : xs.map DV.int ++ [.int v] = (xs ++ [v]).map DV.int := by rw [List.map_append]; rfl
theorem z0h {F : Nat -> List DV -> Option Ou} {δ : List Sv} {e : ME} {n : Nat} {cl : Cl} (h : evE G F e δ = some (.ok (.int n) cl)) (hn : n <= 1000) : q0N (evE G F (.rng [e]) δ) = some (.ok (upTo 0 n) .fresh) := by
 show q0N (Rs.thn (evEs G F [e] δ) (λ l => (rngD l).map λ ds => .ok (.lst ds) .fresh)) = _
 rw [q0g h q0C, q4m]
 have hs : (q1a (n : Int) && decide ((n : Int) <= (mostLen : Int))) = true := by
  rw [Bool.and_eq_true, decide_eq_true_iff]
  refine ⟨?_, Int.le_trans (show (n : Int) <= 1000 by omega) (by decide)⟩
  unfold q1a
  rw [Bool.and_eq_true, decide_eq_true_iff, decide_eq_true_iff]
  exact ⟨Int.le_trans (by decide) (Int.natCast_nonneg n), Int.lt_of_le_of_lt (show (n : Int) <= 1000 by omega) (by decide)⟩
 show q0N ((if q1a (n : Int) && decide ((n : Int) <= (mostLen : Int)) then some (upTo 0 (n : Int).toNat) else none).map λ ds => .ok (.lst ds) .fresh) = _
 rw [if_pos hs, Int.toNat_natCast]
 rfl
theorem z6F {j : Nat} (hj : j < 1000) : q2i (j : Int) (j : Int) = true := by unfold q2i; simp; omega
theorem m48 (x : Int) : q2i x 48271 = true := by unfold q2i; simp
theorem q5Y (c : Int) (n : Nat) (hn : n <= 1000) : ∃ xs : List Int, xs.length = n /\ run G T fu (k + 1) 5 [.int c, .int n] = some (.v (.lst (xs.map DV.int)) true) := by
 rw [q1X (fd := q1i) rfl rfl]
 obtain ⟨δ1, h1, xs, num, z, hl, rfl⟩ := q2I (i := 4) (I := λ j δ => ∃ (xs : List Int) (num : Int) (z : Sv), xs.length = j /\ δ = [.val (.int c), .val (.int n), .own (.lst (xs.map DV.int)), .val (.int num), z])
  (body := λ δ' => evSs G (run G T fu k) fu [.set 3 false (.bin .Mod (.bin .Add (.bin .Add (.bin .Mult (.var 3) (.int 48271)) (.bin .Mult (.var 4) (.var 4))) (.int 11)) (.int 2147483647)), .app 2 (.bin .FloorDiv (.var 3) (.int 7))] δ') n 0 (δ := [.val (.int c), .val (.int n), .own (.lst []), .val (.int (c % 2147483647 + 48271)), .no])
  (λ j hj δ I => by
   obtain ⟨xs, num, z, hl, rfl⟩ := I
   rw [show (0 : Int) + (j : Int) = j by omega]
   obtain ⟨N, hN⟩ : ∃ N : Int, (num * 48271 + (j : Int) * j + 11) % 2147483647 = N := ⟨_, rfl⟩
   obtain ⟨D, hD⟩ : ∃ D : Int, N / 7 = D := ⟨_, rfl⟩
   refine ⟨_, q0w (q0E (d := .int N) (cl := .strong) ?_ rfl) (q0w (z3V (d := .int D) (cl := .strong) rfl ?_ rfl (by rw [List.length_map, hl]; exact Nat.lt_of_lt_of_le (Nat.lt_of_lt_of_le hj hn) (by decide))) rfl), xs ++ [D], N, .val (.int j), by rw [List.length_append, hl]; rfl, ?_⟩
   ·rw [← hN]; exact q1U (q3e (q3e (q3s (q0a rfl) q0f (m48 _)) (q3s (q0a rfl) (q0a rfl) (z6F (by omega)))) q0f) q0f (by decide)
   ·rw [← hD]; exact q9Z (q0a rfl) q0f (by decide)
   ·rw [← q9T]; rfl) ⟨[], _, .no, rfl, rfl⟩
 refine ⟨xs, hl, ?_⟩
 unfold q1i
 exact q3i (q0w (q4X rfl) (q0w (q0E (d := .int (c % 2147483647 + 48271)) (cl := .strong) (q3e (q1U (q0a rfl) q0f (by decide)) q0f) rfl) (q6U (z0h (n := n) (q0a rfl) hn) (.inr rfl) h1 (q2L rfl))))
theorem q5s {e : ME} {ds : List DV} {c : Cl} (h : evE G F e δ = some (.ok (.lst ds) c)) : evE G F (.bi .len [e]) δ = some (.ok (.int ds.length) .strong) := by
 show Rs.thn (evEs G F [e] δ) (λ l => lenD l) = _
 rw [q0g h q0C]
 rfl
theorem q5U {elt it : ME} {tg : Tg} {fr : List (Option Nat)} {f : DV -> DV} (hw : q0N (evE G F it δ) = some (.ok ds cl)) (hc : cl ≠ .weak) (hl : ds.length <= mostLen)
  (h : ∀ d ∈ ds, ∃ δ' c, tg.bind d (q0t fr δ) = some δ' /\ evE G F elt δ' = some (.ok (f d) c) /\ stro (f d) c = true) : evE G F (.comp elt tg it fr) δ = some (.ok (.lst (ds.map f)) .fresh) := by
 show Ri.thn (q0N (evE G F it δ)) (λ ds c => if c = .weak \/ mostLen < ds.length then (if c = .weak /\ ds.length <= mostLen then q2d (q0K (λ d => (tg.bind d (q0t fr [])).bind λ δ' => Rc.of (evE G F elt δ')) ds) else none) else q1w (q0K (λ d => (tg.bind d (q0t fr δ)).bind λ δ' => Rc.of (evE G F elt δ')) ds)) = _
 rw [hw, q7C, if_neg (by rintro (z | z); exact hc z; omega), q3Y (f := f) (λ d hd => ?_)]
 ·rfl
 ·obtain ⟨δ', c, e1, e2, e3⟩ := h d hd
  rw [e1, Option.bind_some, e2]
  show (if stro (f d) c then some (Rc.item (f d)) else none) = _
  rw [if_pos e3]
theorem z5S {e : ME} {i : Int} {cl : Cl} (h : evE G F e δ = some (.ok (.int i) cl)) (h1 : i <= 1000) (h2 : -1000 <= i) : q0N (evE G F (.rng [e]) δ) = some (.ok (upTo 0 i.toNat) .fresh) := by
 show q0N (Rs.thn (evEs G F [e] δ) (λ l => (rngD l).map λ ds => .ok (.lst ds) .fresh)) = _
 rw [q0g h q0C, q4m]
 have hs : (q1a i && decide (i <= (mostLen : Int))) = true := by
  rw [Bool.and_eq_true, decide_eq_true_iff]
  refine ⟨?_, Int.le_trans h1 (by decide)⟩
  unfold q1a
  rw [Bool.and_eq_true, decide_eq_true_iff, decide_eq_true_iff]
  exact ⟨Int.le_trans (by decide) h2, Int.lt_of_le_of_lt h1 (by decide)⟩
 show q0N ((if q1a i && decide (i <= (mostLen : Int)) then some (upTo 0 i.toNat) else none).map λ ds => .ok (.lst ds) .fresh) = _
 rw [if_pos hs]
 rfl
theorem z5t {a lo hi : ME} {ds : List DV} {c c1 c2 : Cl} {l h : Int} (ha : evE G F a δ = some (.ok (.lst ds) c)) (hl : evE G F lo δ = some (.ok (.int l) c1)) (hh : evE G F hi δ = some (.ok (.int h) c2)) : evE G F (.sl a lo hi) δ = some (.ok (.lst (cutD ds (some l) (some h))) (Cl.anew c c)) := by
 unfold evE
 rw [ha, q0M, hl, q0M]
 show Re.thn (evE G F hi δ) _ = _
 rw [hh]
 rfl
theorem q3n {n j : Nat} (h : j < n) : q2A n (j : Int) = some j := by
 unfold q2A
 rw [if_pos (Int.natCast_nonneg j), if_pos (by omega), Int.toNat_natCast]
theorem z4W {F : Nat -> List DV -> Option Ou} {δ : List Sv} {es : List ME} {l : List (DV × Cl)} (h : evEs G F es δ = some (.ok l)) : evE G F (.bi .min es) δ = minD l := by
 have e : evE G F (.bi .min es) δ = Rs.thn (evEs G F es δ) (λ l => minD l) := rfl
 rw [e, h]
 rfl
theorem q3q {α : Type} {g : DV -> Option Rc} {h f : α -> DV} : ∀ {l : List α}, (∀ a ∈ l, g (h a) = some (.item (f a))) -> q0K g (l.map h) = some (l.map f)
 | [], _ => rfl
 | a :: r, q => by
  rw [List.map_cons, List.map_cons]
  unfold q0K
  rw [q a (List.mem_cons_self ..)]
  show (match q0K g (r.map h) with | none => none | some xs => some (f a :: xs)) = _
  rw [q3q λ x hx => q x (List.mem_cons_of_mem _ hx)]
theorem q2O {α : Type} {l : List α} {h f : α -> DV} {elt it : ME} {tg : Tg} {fr : List (Option Nat)} (hw : q0N (evE G F it δ) = some (.ok (l.map h) cl)) (hc : cl ≠ .weak) (hl : l.length <= mostLen)
  (q : ∀ a ∈ l, ∃ δ' c, tg.bind (h a) (q0t fr δ) = some δ' /\ evE G F elt δ' = some (.ok (f a) c) /\ stro (f a) c = true) : evE G F (.comp elt tg it fr) δ = some (.ok (.lst (l.map f)) .fresh) := by
 show Ri.thn (q0N (evE G F it δ)) (λ ds c => if c = .weak \/ mostLen < ds.length then (if c = .weak /\ ds.length <= mostLen then q2d (q0K (λ d => (tg.bind d (q0t fr [])).bind λ δ' => Rc.of (evE G F elt δ')) ds) else none) else q1w (q0K (λ d => (tg.bind d (q0t fr δ)).bind λ δ' => Rc.of (evE G F elt δ')) ds)) = _
 rw [hw, q7C, if_neg (by rintro (z | z); exact hc z; rw [List.length_map] at z; omega), q3q (f := f) (λ a ha => ?_)]
 ·rfl
 ·obtain ⟨δ', c, e1, e2, e3⟩ := q a ha
  rw [e1, Option.bind_some, e2]
  show (if stro (f a) c then some (Rc.item (f a)) else none) = _
  rw [if_pos e3]
section
variable {G : Gs} {a b : ME} {r : List ME} {cx : Cl} {o : Option Re}
theorem q5y (ha : evE G F a δ = some (.ok (.bl true) cx)) (hb : evE G F (.and (b :: r)) δ = o) : evE G F (.and (a :: b :: r)) δ = o := by
 have e : evE G F (.and (a :: b :: r)) δ = Re.thn (evE G F a δ) (λ x c => andD x c (q2h G F (b :: r) δ)) := by
  rw [evE, q2h]; rfl
 have e2 : evE G F (.and (b :: r)) δ = q2h G F (b :: r) δ := by rw [evE]
 rw [e, ha, q0M, ← e2, hb]
 rfl
theorem z3K (ha : evE G F a δ = some (.ok (.bl false) cx)) : evE G F (.and (a :: b :: r)) δ = some (.ok (.bl false) cx) := by
 have e : evE G F (.and (a :: b :: r)) δ = Re.thn (evE G F a δ) (λ x c => andD x c (q2h G F (b :: r) δ)) := by
  rw [evE, q2h]; rfl
 rw [e, ha, q0M]
 rfl
theorem q7r (ha : evE G F a δ = o) : evE G F (.and [a]) δ = o := by
 have e : evE G F (.and [a]) δ = evE G F a δ := by rw [evE, q2h]; rfl
 rw [e, ha]
theorem q4C {tg : Tg} {body : List Sv -> Option Out} {d : DV} {r : List DV} {δ1 δ2 : List Sv} (h1 : tg.bind d δ = some δ1) (h2 : body δ1 = some (.nx δ2)) : q1F tg body (d :: r) δ = q1F tg body r δ2 := by
 show (match tg.bind d δ with | none => none | some δ1 => match body δ1 with | some (.nx δ2) => q1F tg body r δ2 | o => o) = _
 rw [h1]
 show (match body δ1 with | some (.nx δ2) => q1F tg body r δ2 | o => o) = _
 rw [h2]
end
end k41
end
section
namespace k41
open PySem L2
variable {fu k : Nat} {F : Nat -> List DV -> Option Ou} {δ : List Sv} {ds : List DV} {cl : Cl}
theorem band (r o : Nat) : Builtin.bitAnd r o = ((r &&& o : Nat) : Int) := by
 unfold Builtin.bitAnd
 rw [decide_eq_true (Int.natCast_nonneg r), decide_eq_true (Int.natCast_nonneg o)]
 rfl
theorem z0p {a : ME} {g : Nat} {cx : Cl} (ha : evE G F a δ = some (.ok (.int (g : Int)) cx)) : evE G F (.bin .BitAnd a (.int 1)) δ = some (.ok (.int ((g % 2 : Nat) : Int)) .strong) := by
 have := q1Z (op := .BitAnd) ha (q0f (i := 1)) (r := some (.ok (.int (Builtin.bitAnd g 1)) .strong)) rfl
 rw [show (1 : Int) = ((1 : Nat) : Int) from rfl, band, Nat.and_one_is_mod] at this
 exact this
theorem z1n {a b : ME} {g j : Nat} {cx cy : Cl} (ha : evE G F a δ = some (.ok (.int (g : Int)) cx)) (hb : evE G F b δ = some (.ok (.int (j : Int)) cy)) : evE G F (.bin .RShift a b) δ = some (.ok (.int ((g / 2 ^ j : Nat) : Int)) .strong) := by
 refine q1Z ha hb ?_
 show (if (0 : Int) <= (j : Int) then some (Re.ok (DV.int ((g : Int) / 2 ^ (j : Int).toNat)) Cl.strong) else none) = _
 rw [if_pos (Int.natCast_nonneg j), Int.toNat_natCast]
 congr 3
theorem z3v {a b : ME} {j : Nat} {cx cy : Cl} (ha : evE G F a δ = some (.ok (.int 1) cx)) (hb : evE G F b δ = some (.ok (.int (j : Int)) cy)) (hj : j <= 100) : evE G F (.bin .LShift a b) δ = some (.ok (.int ((2 ^ j : Nat) : Int)) .strong) := by
 refine q1Z ha hb ?_
 show (if (0 : Int) <= (j : Int) /\ (j : Int) <= 1000000 /\ (1 : Int).natAbs < 2 ^ 64 then some (Re.ok (DV.int (1 * 2 ^ (j : Int).toNat)) Cl.strong) else none) = _
 rw [if_pos ⟨Int.natCast_nonneg j, by omega, by decide⟩, Int.toNat_natCast, Int.one_mul]
 congr 3
noncomputable def tnC : ME := .cmp .NotEq (.var 3) (.int 0)
noncomputable def tnB : List MS := [.iff (.cmp .Eq (.bin .BitAnd (.var 3) (.int 1)) (.int 1)) [.set 2 false (.neg (.var 2))] [], .set 3 false (.bin .RShift (.var 3) (.int 1))]
theorem b_ne {a b : ME} {i j : Int} {cx cy : Cl} (ha : evE G F a δ = some (.ok (.int i) cx)) (hb : evE G F b δ = some (.ok (.int j) cy)) : evE G F (.cmp .NotEq a b) δ = some (.ok (.bl (!(i == j))) .strong) := q3u ha hb rfl
theorem tn_s {x y : Sv} {s : Int} {g : Nat} : evSs G F fu tnB [x, y, .val (.int s), .val (.int (g : Int))] = some (.nx [x, y, .val (.int (if g % 2 = 1 then -s else s)), .val (.int ((g / 2 : Nat) : Int))]) := by
 have c0 := b_eq (z0p (q0a (G := G) (F := F) (n := 3) (d := .int (g : Int)) (δ := [x, y, .val (.int s), .val (.int (g : Int))]) rfl)) (q0f (i := 1))
 have st : ∀ s : Int, evS G F fu (.set 3 false (.bin .RShift (.var 3) (.int 1))) [x, y, .val (.int s), .val (.int (g : Int))] = some (.nx [x, y, .val (.int s), .val (.int ((g / 2 : Nat) : Int))]) := λ s => by
  have := z1n (q0a (G := G) (F := F) (n := 3) (d := .int (g : Int)) (δ := [x, y, .val (.int s), .val (.int (g : Int))]) rfl) (q0f (i := ((1 : Nat) : Int)))
  rw [Nat.pow_one] at this
  exact q0E this rfl
 unfold tnB
 by_cases h : g % 2 = 1
 ·rw [show (((g % 2 : Nat) : Int) == 1) = true by rw [h]; rfl] at c0
  rw [if_pos h]
  refine q5i (q0P c0) (q0w (q0E (d := .int (-s)) (cl := .strong) ?_ rfl) rfl) (q0w (st (-s)) rfl)
  rfl
 ·rw [show (((g % 2 : Nat) : Int) == 1) = false by rw [beq_eq_false_iff_ne]; omega] at c0
  rw [if_neg h]
  exact q1R (q0P c0) (q0w (st s) rfl)
theorem z3y (x y : Sv) : ∀ (f g : Nat) (s : Int) (N : Nat), g < 2 ^ f -> f < N -> q1b (λ δ' => tstD (evE G F tnC δ')) (λ δ' => evSs G F fu tnB δ') N [x, y, .val (.int s), .val (.int (g : Int))] = some (.nx [x, y, .val (.int (s * par f g)), .val (.int ((0 : Nat) : Int))])
 | f, 0, s, N + 1, _, _ => by
  have e : par f 0 = 1 := by cases f <;> rfl
  rw [e, Int.mul_one]
  exact z3b (q0P (b_ne (i := ((0 : Nat) : Int)) (q0a rfl) q0f))
 | 0, g + 1, s, _, h, _ => by simp at h
 | f + 1, g + 1, s, N + 1, h, hN => by
  have ih := z3y x y f ((g + 1) / 2) (if (g + 1) % 2 = 1 then -s else s) N ((Nat.div_lt_iff_lt_mul (by decide)).mpr (by rw [← Nat.pow_succ]; exact h)) (by omega)
  have c := b_ne (q0a (G := G) (F := F) (n := 3) (d := .int ((g + 1 : Nat) : Int)) (δ := [x, y, .val (.int s), .val (.int ((g + 1 : Nat) : Int))]) rfl) (q0f (i := 0))
  rw [show (!(((g + 1 : Nat) : Int) == 0)) = true by rw [show (((g + 1 : Nat) : Int) == 0) = false by rw [beq_eq_false_iff_ne]; omega]; rfl] at c
  have ep : s * par (f + 1) (g + 1) = (if (g + 1) % 2 = 1 then -s else s) * par f ((g + 1) / 2) := by
   show s * (if g + 1 = 0 then 1 else if (g + 1) % 2 = 1 then - par f ((g + 1) / 2) else par f ((g + 1) / 2)) = _
   rw [if_neg (by omega)]
   by_cases hh : (g + 1) % 2 = 1
   ·rw [if_pos hh, if_pos hh, Int.neg_mul, Int.mul_neg]
   ·rw [if_neg hh, if_neg hh]
  rw [ep]
  exact z2N (q0P c) tn_s ih
theorem z3C {T c : Nat} (hT : T < 64) (hf : 10 <= fu) : run G k41.T fu (k + 1) 2 [.int (T : Int), .int (c : Int)] = some (.v (.int (tsgn T c)) false) := by
 rw [q1X (fd := q6F) rfl rfl]
 unfold q6F
 have g0 := z1n (q0a (G := G) (F := run G k41.T fu k) (n := 0) (d := .int (T : Int)) (δ := [.val (.int (T : Int)), .val (.int (c : Int)), .val (.int 1), .no]) rfl) (b := .bin .Add (.var 1) (.int 1)) (j := c + 1) (cy := .strong) (by
  have := q3e (q0a (G := G) (F := run G k41.T fu k) (n := 1) (d := .int (c : Int)) (δ := [.val (.int (T : Int)), .val (.int (c : Int)), .val (.int 1), .no]) rfl) (q0f (i := 1))
  rw [show (c : Int) + 1 = ((c + 1 : Nat) : Int) by push_cast; rfl] at this
  exact this)
 have lp := z3y (F := run G k41.T fu k) (fu := fu) (.val (.int (T : Int))) (.val (.int (c : Int))) 6 (T / 2 ^ (c + 1)) 1 fu (Nat.lt_of_le_of_lt (Nat.div_le_self _ _) hT) (by omega)
 rw [Int.one_mul] at lp
 exact q3i (q0w (q0E (d := .int 1) (cl := .strong) rfl rfl) (q0w (q0E (cl := .strong) g0 rfl) (z6k lp (q2L (q4i (q0a rfl))))))
end k41
end
section
namespace k41
open PySem L2
variable {fu k : Nat} {F : Nat -> List DV -> Option Ou} {δ : List Sv} {ds : List DV} {cl : Cl}
noncomputable def kD (L : Tb) : List DKey := L.map λ p => .i p.1
noncomputable def vD (L : Tb) : List DV := L.map λ p => .int p.2
noncomputable def dD (L : Tb) : DV := .dct (kD L) (vD L)
theorem z0s : ∀ L : Tb, kvs? (kD L) (vD L) = some L
 | [] => rfl
 | (a, b) :: L => by
  show (kvs? (kD L) (vD L)).map ((a, b) :: ·) = _
  rw [z0s L]
  rfl
theorem q5B (j : Int) : ∀ L : Tb, q3h (.i j) (kD L) (vD L) = (L.find? λ p => decide (p.1 = j)).map λ p => .int p.2
 | [] => rfl
 | (a, b) :: L => by
  show (if DKey.i a = .i j then some (DV.int b) else q3h (.i j) (kD L) (vD L)) = _
  by_cases h : a = j
  ·rw [if_pos (by rw [h]), List.find?_cons_of_pos (by simpa using h)]; rfl
  ·rw [if_neg (by intro z; exact h (DKey.i.inj z)), List.find?_cons_of_neg (by simpa using h), q5B j L]
theorem q6u {α β γ : Type} (f : α -> β) (g : α -> γ) : ∀ L : List α, List.zip (L.map f) (L.map g) = L.map λ p => (f p, g p)
 | [] => rfl
 | a :: L => by rw [List.map_cons, List.map_cons, List.zip_cons_cons, q6u f g L]; rfl
theorem z4v (L : Tb) (j z : Int) : putD (.i j) (.int z) (kD L) (vD L) = (kD (putT L j z), vD (putT L j z)) := by
 have e : (DKey.i j ∈ kD L) ↔ (L.any λ p => decide (p.1 = j)) = true := by
  unfold kD
  rw [List.mem_map, List.any_eq_true]
  constructor
  ·rintro ⟨p, h1, h2⟩; exact ⟨p, h1, decide_eq_true (DKey.i.inj h2)⟩
  ·rintro ⟨p, h1, h2⟩; exact ⟨p, h1, by rw [of_decide_eq_true h2]⟩
 unfold putD putT
 by_cases h : (L.any λ p => decide (p.1 = j)) = true
 ·rw [if_pos (e.mpr h), if_pos h]
  unfold kD vD
  rw [q6u, List.map_map, List.map_map, List.map_map]
  refine Prod.ext ?_ ?_
  ·apply List.map_congr_left
   intro p _
   show DKey.i p.1 = DKey.i (if p.1 = j then (p.1, z) else p).1
   split <;> rfl
  ·apply List.map_congr_left
   intro p _
   show (if DKey.i p.1 = DKey.i j then DV.int z else DV.int p.2) = DV.int (if p.1 = j then (p.1, z) else p).2
   by_cases h : p.1 = j
   ·rw [if_pos (by rw [h]), if_pos h]
   ·rw [if_neg (by intro z; exact h (DKey.i.inj z)), if_neg h]
 ·rw [if_neg (λ z => h (e.mp z)), if_neg h]
  unfold kD vD
  rw [List.map_append, List.map_append]
  rfl
theorem z4P {i : Nat} {a : ME} {L : Tb} {j : Int} {cx : Cl} (h0 : δ[i]? = some (.od (dD L))) (ha : evE G F a δ = some (.ok (.int j) cx)) : evE G F (.dgt i a (.int 0)) δ = some (.ok (.int (getL L j)) .strong) := by
 have e : evE G F (.dgt i a (.int 0)) δ = (match δ[i]? with
  | some (.od x) => Re.thn (evE G F a δ) λ y _ => Re.thn (evE G F (.int 0) δ) λ z _ => dgtD x y z
  | _ => none) := by rw [evE] <;> rfl
 rw [e, h0]
 show Re.thn (evE G F a δ) (λ y _ => dgtD (dD L) y (.int 0)) = _
 rw [ha, q0M]
 show (match (q3h (.i j) (kD L) (vD L)).getD (.int 0) with | .int v => some (Re.ok (.int v) Cl.strong) | _ => none) = _
 rw [q5B]
 unfold getL
 cases L.find? λ p => decide (p.1 = j) <;> rfl
theorem z1A {i : Nat} {a b : ME} {L : Tb} {j z : Int} {cx cy : Cl} (h0 : δ[i]? = some (.od (dD L))) (hb : evE G F b δ = some (.ok (.int z) cy)) (ha : evE G F a δ = some (.ok (.int j) cx)) (hl : L.length < mostLen) : evS G F fu (.dput i a b) δ = some (.nx (δ.set i (.od (dD (putT L j z))))) := by
 have e : evS G F fu (.dput i a b) δ = (match δ[i]? with
  | some (.od (.dct ks vs)) => Re.thnS δ (evE G F b δ) λ d _ => Re.thnS δ (evE G F a δ) λ k _ => (match k, d with
   | .int k, .int z => if ks.length < mostLen then some (.nx (δ.set i (.od (.dct (putD (.i k) (.int z) ks vs).1 (putD (.i k) (.int z) ks vs).2)))) else none
   | _, _ => none)
  | _ => none) := by rw [evS] <;> rfl
 rw [e, h0]
 show Re.thnS δ (evE G F b δ) (λ d _ => Re.thnS δ (evE G F a δ) λ k _ => (match k, d with
   | .int k, .int z => if (kD L).length < mostLen then some (.nx (δ.set i (.od (.dct (putD (.i k) (.int z) (kD L) (vD L)).1 (putD (.i k) (.int z) (kD L) (vD L)).2)))) else none
   | _, _ => none)) = _
 rw [hb, q4x, ha, q4x]
 show (if (kD L).length < mostLen then _ else none) = _
 rw [if_pos (by unfold kD; rw [List.length_map]; exact hl), z4v]
 rfl
theorem z4x {a b : ME} {L : Tb} {j : Int} {cx cy : Cl} (ha : evE G F a δ = some (.ok (dD L) cx)) (hb : evE G F b δ = some (.ok (.int j) cy)) (h : j ∈ keys L) : evE G F (.dix a b) δ = some (.ok (.int (getL L j)) .strong) := by
 have e : evE G F (.dix a b) δ = Re.thn (evE G F a δ) (λ x _ => Re.thn (evE G F b δ) λ y _ => dixD x y) := by rw [evE]
 rw [e, ha, q0M, hb, q0M]
 show (match q3h (.i j) (kD L) (vD L) with | some (.int v) => some (Re.ok (.int v) Cl.strong) | _ => none) = _
 rw [q5B]
 unfold getL
 cases hz : L.find? λ p => decide (p.1 = j) with
 | none =>
  exfalso
  obtain ⟨p, hp, e⟩ := List.mem_map.mp h
  have := List.find?_eq_none.mp hz p hp
  rw [decide_eq_true_eq] at this
  exact this e
 | some p => rfl
theorem z5r {e : ME} {L : Tb} (h : evE G F e δ = some (.ok (dD L) .strong)) : q0N (evE G F (.itm e) δ) = some (.ok (L.map λ p => .tup [.int p.1, .int p.2]) .strong) := by
 have q : evE G F (.itm e) δ = Re.thn (evE G F e δ) (λ x c => itmD x c) := by rw [evE]
 rw [q, h, q0M]
 show q0N ((kvs? (kD L) (vD L)).map _) = _
 rw [z0s]
 rfl
theorem z5Q {e : ME} {ds : List DV} (h : evE G F e δ = some (.ok (.lst ds) .strong)) : q0N (evE G F (.enu e) δ) = some (.ok (enuD 0 ds) .strong) := by
 have q : evE G F (.enu e) δ = Re.thn (evE G F e δ) (λ x c => q7t x c) := by rw [evE]
 rw [q, h, q0M]
 rfl
theorem z5T (T c : Nat) : T / 2 ^ c % 2 = if T.testBit c then 1 else 0 := by
 rw [Nat.testBit_eq_decide_div_mod_eq]
 by_cases h : T / 2 ^ c % 2 = 1
 ·rw [h]; rfl
 ·rw [show T / 2 ^ c % 2 = 0 by omega]; rfl
theorem z5a {T c : Nat} (hT : T < 64) (hc : c < 6) (h : ¬ T.testBit c = true) : Builtin.bitOr (T : Int) ((2 ^ c : Nat) : Int) = ((T + 2 ^ c : Nat) : Int) := by
 have e : ((List.range 64).all λ T => (List.range 6).all λ c => T.testBit c || decide (Builtin.bitOr (T : Int) ((2 ^ c : Nat) : Int) = ((T + 2 ^ c : Nat) : Int))) = true := by decide +kernel
 have h2 := List.all_eq_true.mp e T (List.mem_range.mpr hT)
 have h3 := List.all_eq_true.mp h2 c (List.mem_range.mpr hc)
 rcases Bool.or_eq_true _ _ ▸ h3 with z | z
 ·exact absurd z h
 ·exact of_decide_eq_true z
theorem q6q {i j : Int} (h1 : i.natAbs < 2 ^ 2000) (h2 : j.natAbs < 2 ^ 2000) : q2i i j = true := by
 unfold q2i
 rw [decide_eq_true h1, decide_eq_true h2, Bool.and_self, Bool.or_true]
theorem z0R {i j : Int} (h : i = 1 \/ i = -1) : q2i i j = true := by
 unfold q2i
 rcases h with h | h <;> rw [h] <;> rfl
noncomputable abbrev Sw (s r : DV) (L : Tb) (a b c d e : Sv) : List Sv := [.val s, .val r, .od (dD L), a, b, c, d, e]
noncomputable def wrB : List MS := [.iff (.cmp .Eq (.bin .BitAnd (.bin .RShift (.var 3) (.var 5)) (.int 1)) (.int 0)) [.set 7 false (.bin .BitOr (.var 3) (.bin .LShift (.int 1) (.var 5))), .dput 2 (.var 7) (.bin .Add (.dgt 2 (.var 7) (.int 0)) (.bin .Mult (.bin .Mult (.call 2 [.var 3, .var 5]) (.var 4)) (.var 6)))] []]
theorem wr_s {s r : DV} {L : Tb} {T c : Nat} {v a : Int} {f : Rw} {e : Sv} (hT : T < 64) (hc : c < 6) (hf : 10 <= fu) (ha : f c = a) (hv : v.natAbs < 2 ^ 1000) (hab : a.natAbs < 2 ^ 1000) (hl : L.length < mostLen) :
  ∃ e', evSs G (run G k41.T fu (k + 1)) fu wrB (Sw s r L (.val (.int (T : Int))) (.val (.int v)) (.val (.int (c : Int))) (.val (.int a)) e) = some (.nx (Sw s r (stp f T v L c) (.val (.int (T : Int))) (.val (.int v)) (.val (.int (c : Int))) (.val (.int a)) e')) := by
 have c0 := b_eq (z0p (z1n (q0a (G := G) (F := run G k41.T fu (k + 1)) (n := 3) (d := .int (T : Int)) (δ := Sw s r L (.val (.int (T : Int))) (.val (.int v)) (.val (.int (c : Int))) (.val (.int a)) e) rfl) (q0a (n := 5) (d := .int (c : Int)) rfl))) (q0f (i := 0))
 rw [z5T] at c0
 unfold wrB stp
 by_cases h : T.testBit c = true
 ·rw [if_pos h] at c0 ⊢
  exact ⟨e, q1R (q0P c0) rfl⟩
 ·rw [if_neg h] at c0 ⊢
  have p1 : (2 : Nat) ^ 1000 <= 2 ^ 2000 := Nat.pow_le_pow_right (by decide) (by decide)
  have w1 := q1Z (op := .BitOr) (q0a (G := G) (F := run G k41.T fu (k + 1)) (n := 3) (d := .int (T : Int)) (δ := Sw s r L (.val (.int (T : Int))) (.val (.int v)) (.val (.int (c : Int))) (.val (.int a)) e) rfl) (z3v (q0f (i := 1)) (q0a (n := 5) (d := .int (c : Int)) rfl) (by omega)) (r := some (.ok (.int (Builtin.bitOr (T : Int) ((2 ^ c : Nat) : Int))) .strong)) rfl
  rw [z5a hT hc h] at w1
  have tn := q0W (G := G) (F := run G k41.T fu (k + 1)) (δ := Sw s r L (.val (.int (T : Int))) (.val (.int v)) (.val (.int (c : Int))) (.val (.int a)) (.val (.int ((T + 2 ^ c : Nat) : Int)))) (f := 2) (q0g (q0a (n := 3) (d := .int (T : Int)) rfl) (q0g (q0a (n := 5) (d := .int (c : Int)) rfl) q0C)) rfl (z3C (k := k) (c := c) hT hf)
  have m1 := q3s tn (q0a (n := 4) (d := .int v) rfl) (z0R (q4E T c))
  have ht : (tsgn T c * v).natAbs < 2 ^ 2000 := by
   rw [Int.natAbs_mul]
   rcases q4E T c with z | z <;> rw [z] <;> simp only [Int.natAbs_neg, Int.natAbs_one, Nat.one_mul] <;> exact Nat.lt_of_lt_of_le hv p1
  have m2 := q3s m1 (q0a (n := 6) (d := .int a) rfl) (q6q ht (Nat.lt_of_lt_of_le hab p1))
  have m3 := q3e (z4P (F := run G k41.T fu (k + 1)) (i := 2) (δ := Sw s r L (.val (.int (T : Int))) (.val (.int v)) (.val (.int (c : Int))) (.val (.int a)) (.val (.int ((T + 2 ^ c : Nat) : Int)))) (a := .var 7) (j := ((T + 2 ^ c : Nat) : Int)) rfl (q0a rfl)) m2
  rw [ha]
  exact ⟨.val (.int ((T + 2 ^ c : Nat) : Int)), q5i (q0P c0) (q0w (q0E (cl := .strong) w1 rfl) (q0w (z1A rfl m3 (q0a rfl) hl) rfl)) rfl⟩
theorem z4k {s r : DV} {n T : Nat} {v : Int} {f : Rw} (hn : n <= 6) (hT : T < 2 ^ n) (hf : 10 <= fu) (hv : v.natAbs < 2 ^ 1000) : ∀ (as : List Int) (j : Nat) (L : Tb) (c d e : Sv), j + as.length = n -> (∀ i (h : i < as.length), f (j + i) = as[i] /\ (as[i]).natAbs < 2 ^ 1000) -> Gd n L -> L.length + as.length <= 900000 ->
  ∃ c' d' e', q1F (.many [5, 6]) (λ δ' => evSs G (run G k41.T fu (k + 1)) fu wrB δ') (enuD j (as.map DV.int)) (Sw s r L (.val (.int (T : Int))) (.val (.int v)) c d e) = some (.nx (Sw s r (inn f T v (List.range' j as.length) L) (.val (.int (T : Int))) (.val (.int v)) c' d' e'))
 | [], j, L, c, d, e, _, _, _, _ => ⟨c, d, e, rfl⟩
 | a :: as, j, L, c, d, e, hj, ha, hg, hl => by
  rw [List.length_cons] at hj hl
  have h64 : 2 ^ n <= 64 := Nat.pow_le_pow_right (n := 2) (by decide) hn
  have h0 := ha 0 (by rw [List.length_cons]; omega)
  rw [Nat.add_zero] at h0
  obtain ⟨e1, st⟩ := wr_s (fu := fu) (k := k) (s := s) (r := r) (L := L) (T := T) (c := j) (v := v) (a := a) (f := f) (e := e) (by omega) (by omega) hf h0.1 hv h0.2 (Nat.lt_of_le_of_lt (by omega : L.length <= 900000) (by decide))
  have hs := q8c (r := f) (T := T) (v := v) (L := L) (c := j)
  obtain ⟨c', d', e', g⟩ := z4k hn hT hf hv as (j + 1) (stp f T v L j) (.val (.int (j : Int))) (.val (.int a)) e1 (by omega) (λ i hi => by
   have := ha (i + 1) (by rw [List.length_cons]; omega)
   rw [show j + 1 + i = j + (i + 1) by omega]
   exact this) (z0z hn hT (by omega) hg) (by omega)
  refine ⟨c', d', e', ?_⟩
  have hb : (Tg.many [5, 6]).bind (.tup [.int (j : Int), .int a]) (Sw s r L (.val (.int (T : Int))) (.val (.int v)) c d e) = some (Sw s r L (.val (.int (T : Int))) (.val (.int v)) (.val (.int (j : Int))) (.val (.int a)) e) := rfl
  exact (q4C hb st).trans g
noncomputable abbrev lI (as : List Int) : DV := .lst (as.map DV.int)
noncomputable def rw1 (as : List Int) : Rw := λ c => as.getD c 0
noncomputable def wrO : List MS := [.fo (.many [5, 6]) (.enu (.var 1)) wrB]
theorem z0E {s : DV} {n : Nat} {as : List Int} (hn : n <= 6) (hf : 10 <= fu) (ha : as.length = n) (hab : ∀ a ∈ as, a.natAbs < 2 ^ 1000) : ∀ (Ls L : Tb) (a b c d e : Sv), (∀ k ∈ keys Ls, ∃ T : Nat, k = (T : Int) /\ T < 2 ^ n) -> (∀ p ∈ Ls, p.2.natAbs < 2 ^ 1000) -> Gd n L -> L.length + Ls.length * n <= 900000 ->
  ∃ a' b' c' d' e', q1F (.many [3, 4]) (λ δ' => evSs G (run G k41.T fu (k + 1)) fu wrO δ') (Ls.map λ p => .tup [.int p.1, .int p.2]) (Sw s (lI as) L a b c d e) = some (.nx (Sw s (lI as) (wrG n (rw1 as) Ls L) a' b' c' d' e'))
 | [], L, a, b, c, d, e, _, _, _, _ => ⟨a, b, c, d, e, rfl⟩
 | (kk, v) :: Ls, L, a, b, c, d, e, hk, hv, hg, hl => by
  obtain ⟨T, eT, hT⟩ := hk kk (List.mem_cons_self ..)
  subst eT
  rw [List.length_cons, Nat.add_mul] at hl
  obtain ⟨c1, d1, e1, g1⟩ := z4k (fu := fu) (k := k) (s := s) (r := lI as) (n := n) (T := T) (v := v) (f := rw1 as) hn hT hf (hv _ (List.mem_cons_self ..)) as 0 L c d e (by omega) (λ i hi => by
   refine ⟨?_, hab _ (List.getElem_mem hi)⟩
   unfold rw1
   rw [Nat.zero_add, List.getD_eq_getElem?_getD, List.getElem?_eq_getElem hi]
   rfl) hg (by omega)
  rw [ha, ← List.range_eq_range'] at g1
  have ia := q5P (r := rw1 as) (v := v) hn hT (List.range n) L (λ c hc => List.mem_range.mp hc) hg
  have hlen := ia.2.2.2.1
  rw [List.length_range] at hlen
  obtain ⟨a', b', c', d', e', g⟩ := z0E hn hf ha hab Ls (inn (rw1 as) T v (List.range n) L) (.val (.int (T : Int))) (.val (.int v)) c1 d1 e1 (λ j hj => hk j (List.mem_cons_of_mem _ hj)) (λ p hp => hv p (List.mem_cons_of_mem _ hp)) ia.1 (by omega)
  refine ⟨a', b', c', d', e', ?_⟩
  have hb : (Tg.many [3, 4]).bind (.tup [.int (T : Int), .int v]) (Sw s (lI as) L a b c d e) = some (Sw s (lI as) L (.val (.int (T : Int))) (.val (.int v)) c d e) := rfl
  have st : evSs G (run G k41.T fu (k + 1)) fu wrO (Sw s (lI as) L (.val (.int (T : Int))) (.val (.int v)) c d e) = some (.nx (Sw s (lI as) (inn (rw1 as) T v (List.range n) L) (.val (.int (T : Int))) (.val (.int v)) c1 d1 e1)) := q6U (z5Q (q0a rfl)) (.inl rfl) g1 rfl
  have eq : wrG n (rw1 as) ((((T : Nat) : Int), v) :: Ls) L = wrG n (rw1 as) Ls (inn (rw1 as) T v (List.range n) L) := by
   show wrG n (rw1 as) Ls (inn (rw1 as) ((T : Nat) : Int).toNat v (List.range n) L) = _
   rw [Int.toNat_natCast]
  rw [eq]
  exact (q4C hb st).trans g
theorem q7m {n : Nat} {as : List Int} {Ls : Tb} (hn : n <= 6) (hf : 10 <= fu) (ha : as.length = n) (hab : ∀ a ∈ as, a.natAbs < 2 ^ 1000) (hg : Gd n Ls) (hv : sab Ls < 2 ^ 1000) (hl : Ls.length * n <= 900000) :
  run G k41.T fu (k + 2) 1 [dD Ls, lI as] = some (.v (dD (wrG n (rw1 as) Ls [])) false) := by
 rw [q1X (fd := q2e) rfl rfl]
 unfold q2e
 obtain ⟨a, b, c, d, e, g⟩ := z0E (fu := fu) (k := k) (s := dD Ls) hn hf ha hab Ls [] .no .no .no .no .no hg.2 (λ p hp => Nat.lt_of_le_of_lt (z2S hp) hv) z0H (by show 0 + _ <= _; omega)
 refine q3i (q0w (δ' := Sw (dD Ls) (lI as) [] .no .no .no .no .no) rfl (q6U (z5r (q0a rfl)) (.inl rfl) g (q2L rfl)))
end k41
end
section
set_option exponentiation.threshold 3000
namespace k41
open PySem L2
variable {fu k : Nat} {F : Nat -> List DV -> Option Ou} {δ : List Sv} {ds : List DV} {cl : Cl}
noncomputable def Bd : Nat := 2 ^ 80
noncomputable def Sqr (n : Nat) (rows : List (List Int)) : Prop := rows.length = n /\ ∀ r ∈ rows, r.length = n /\ ∀ x ∈ r, x.natAbs <= Bd
noncomputable abbrev rLs (rows : List (List Int)) : DV := .lst (rows.map lI)
theorem z0J : 0 < 6 * Bd := by decide
theorem z6m : Bd < 2 ^ 1000 := by decide +kernel
theorem z3k {n : Nat} {r : List Int} (hn : n <= 6) (h : r.length = n) (hx : ∀ x ∈ r, x.natAbs <= Bd) : ((List.range n).map λ c => (rw1 r c).natAbs).sum <= 6 * Bd := by
 refine Nat.le_trans (z0F (B := Bd) (List.range n) λ c hc => ?_) ?_
 ·have hc' := List.mem_range.mp hc
  unfold rw1
  rw [List.getD_eq_getElem?_getD, List.getElem?_eq_getElem (by omega)]
  exact hx _ (List.getElem_mem _)
 ·rw [List.length_range]
  exact Nat.mul_le_mul_right _ hn
noncomputable def dtB : List MS := [.set 1 false (.call 1 [.var 1, .var 2])]
theorem z3P {q : DV} {n : Nat} (hn : n <= 6) (hf : 10 <= fu) : ∀ (rs : List (List Int)) (L : Tb) (z : Sv), (∀ r ∈ rs, r.length = n /\ ∀ x ∈ r, x.natAbs <= Bd) -> Gd n L -> sab L * (6 * Bd) ^ rs.length < 2 ^ 1000 -> L.length * 6 ^ rs.length <= 100000 ->
  ∃ z', q1F (.one 2) (λ δ' => evSs G (run G k41.T fu (k + 2)) fu dtB δ') (rs.map lI) [.val q, .val (dD L), z] = some (.nx [.val q, .val (dD (dets n (rs.map rw1) L)), z'])
 | [], L, z, _, _, _, _ => ⟨z, rfl⟩
 | r :: rs, L, z, hr, hg, hs, hl => by
  obtain ⟨h1, h2⟩ := hr r (List.mem_cons_self ..)
  rw [List.length_cons, Nat.pow_succ] at hs hl
  have p1 : 0 < (6 * Bd) ^ rs.length := Nat.pow_pos z0J
  have p2 : 0 < 6 ^ rs.length := Nat.pow_pos (by decide)
  have hs0 : sab L < 2 ^ 1000 := Nat.lt_of_le_of_lt (Nat.le_mul_of_pos_right _ (Nat.mul_pos p1 z0J)) hs
  have hl0 : L.length * n <= 900000 := by
   have : L.length * 6 <= L.length * (6 ^ rs.length * 6) := Nat.mul_le_mul_left _ (Nat.le_mul_of_pos_left _ p2)
   have h3 : L.length * n <= L.length * 6 := Nat.mul_le_mul_left _ hn
   omega
  have w := wr0 (r := rw1 r) hn hg
  have e := q7m (fu := fu) (k := k) hn hf h1 (λ a ha => Nat.lt_of_le_of_lt (h2 a ha) z6m) hg hs0 hl0
  obtain ⟨z', g⟩ := z3P (q := q) hn hf rs (wrG n (rw1 r) L []) (.val (lI r)) (λ r' hr' => hr r' (List.mem_cons_of_mem _ hr')) w.1 (by
   refine Nat.lt_of_le_of_lt (Nat.mul_le_mul_right _ (Nat.le_trans w.2.2.1 (Nat.mul_le_mul_left _ (z3k hn h1 h2)))) ?_
   rw [Nat.mul_assoc, Nat.mul_comm (6 * Bd)]
   exact hs) (by
   refine Nat.le_trans (Nat.mul_le_mul_right _ (Nat.le_trans w.2.2.2.1 (Nat.mul_le_mul_left _ hn))) ?_
   rw [Nat.mul_assoc, Nat.mul_comm 6]
   exact hl)
  refine ⟨z', ?_⟩
  have hb : (Tg.one 2).bind (lI r) [.val q, .val (dD L), z] = some [.val q, .val (dD L), .val (lI r)] := rfl
  have st : evSs G (run G k41.T fu (k + 2)) fu dtB [.val q, .val (dD L), .val (lI r)] = some (.nx [.val q, .val (dD (wrG n (rw1 r) L [])), .val (lI r)]) := q0w (q0E (cl := .strong) (q0W (q0g (q0a rfl) (q0g (q0a rfl) q0C)) rfl e) rfl) rfl
  exact (q4C hb st).trans g
noncomputable def dv (rows : List (List Int)) : Int := dt (rows.map rw1) (List.range rows.length)
theorem z0N : ∀ n, n <= 6 -> 1 * (6 * Bd) ^ n < 2 ^ 1000 /\ 1 * 6 ^ n <= 100000 := by decide +kernel
theorem q4t {n : Nat} {rows : List (List Int)} (hn : n <= 6) (hf : 10 <= fu) (h : Sqr n rows) : run G k41.T fu (k + 3) 0 [rLs rows] = some (.v (.int (dv rows)) false) := by
 rw [q1X (fd := q1g) rfl rfl]
 unfold q1g
 obtain ⟨h1, h2⟩ := h
 have g0 : Gd n [(0, 1)] := ⟨by decide, λ k hk => ⟨0, by rw [List.mem_singleton.mp hk]; rfl, Nat.two_pow_pos n⟩⟩
 obtain ⟨z', g⟩ := z3P (fu := fu) (k := k) (q := rLs rows) hn hf rows [(0, 1)] .no h2 g0 (by rw [h1]; exact (z0N n hn).1) (by rw [h1]; exact (z0N n hn).2)
 obtain ⟨d1, d2, d3⟩ := q9X hn (rows.map rw1) (by rw [List.length_map, h1])
 have w : q0N (evE G (run G k41.T fu (k + 2)) (.var 0) [.val (rLs rows), .val (dD [(0, 1)]), .no]) = some (.ok (rows.map lI) .strong) := by
  rw [q0a (d := rLs rows) rfl]
  rfl
 have sh := z3v (q0f (G := G) (F := run G k41.T fu (k + 2)) (i := 1) (δ := [.val (rLs rows), .val (dD (dets n (rows.map rw1) [(0, 1)])), z'])) (b := .bi .len [.var 0]) (j := n) (cy := .strong) (by
  have := q5s (F := run G k41.T fu (k + 2)) (e := .var 0) (δ := [.val (rLs rows), .val (dD (dets n (rows.map rw1) [(0, 1)])), z']) (q0a rfl)
  rw [List.length_map, h1] at this
  exact this) (by omega)
 have ky := q5j sh (q0f (i := 1))
 rw [show ((2 ^ n : Nat) : Int) - 1 = ((2 ^ n - 1 : Nat) : Int) by have := Nat.two_pow_pos n; omega] at ky
 have rt := q4i (fu := fu) (z4x (F := run G k41.T fu (k + 2)) (a := .var 1) (L := dets n (rows.map rw1) [(0, 1)]) (cx := .strong) (q0a rfl) ky d2)
 rw [d3] at rt
 unfold dv
 rw [h1]
 exact q3i (q0w (δ' := [.val (rLs rows), .val (dD [(0, 1)]), .no]) rfl (q6U w (.inl rfl) g (q2L rt)))
theorem q8T {a b : ME} {c c1 : Cl} {h : Nat} (ha : evE G F a δ = some (.ok (.lst ds) c)) (hh : evE G F b δ = some (.ok (.int (h : Int)) c1)) : evE G F (.slf a b) δ = some (.ok (.lst (ds.drop h)) (Cl.anew c c)) := by
 have e : evE G F (.slf a b) δ = Re.thn (evE G F a δ) (λ x cx => Re.thn (evE G F b δ) λ l _ => match l with | .int l => (slD x (some l) none).map (λ d => Re.ok d (slCl x cx)) | _ => none) := by rw [evE] <;> rfl
 rw [e, ha, q0M, hh, q0M]
 show some (Re.ok (.lst (cutD ds (some (h : Int)) none)) (Cl.anew c c)) = _
 congr 3
 unfold cutD slIx
 dsimp only
 rw [if_neg (by omega), Int.toNat_natCast]
 by_cases z : h <= ds.length
 ·rw [Nat.min_eq_left z, List.take_of_length_le (by rw [List.length_drop]; exact Nat.le_refl _)]
 ·rw [Nat.min_eq_right (by omega), List.drop_of_length_le (Nat.le_refl _), List.drop_of_length_le (by omega), List.take_nil]
theorem z4l {a b : ME} {c c1 : Cl} {h : Nat} (ha : evE G F a δ = some (.ok (.lst ds) c)) (hh : evE G F b δ = some (.ok (.int (h : Int)) c1)) : evE G F (.slt a b) δ = some (.ok (.lst (ds.take h)) (Cl.anew c c)) := by
 have e : evE G F (.slt a b) δ = Re.thn (evE G F a δ) (λ x cx => Re.thn (evE G F b δ) λ l _ => match l with | .int l => (slD x none (some l)).map (λ d => Re.ok d (slCl x cx)) | _ => none) := by rw [evE] <;> rfl
 rw [e, ha, q0M, hh, q0M]
 show some (Re.ok (.lst (cutD ds none (some (h : Int)))) (Cl.anew c c)) = _
 congr 3
 unfold cutD slIx
 dsimp only
 rw [if_neg (by omega), Int.toNat_natCast, List.drop_zero, Nat.sub_zero]
 by_cases z : h <= ds.length
 ·rw [Nat.min_eq_left z]
 ·rw [Nat.min_eq_right (by omega), List.take_length, List.take_of_length_le (by omega)]
theorem z5X {a b : ME} {x y : List DV} {cx cy : Cl} (ha : evE G F a δ = some (.ok (.lst x) cx)) (hb : evE G F b δ = some (.ok (.lst y) cy)) (h : x.length + y.length <= 1000) : evE G F (.bin .Add a b) δ = some (.ok (.lst (x ++ y)) (Cl.anew cx cy)) :=
 q1Z ha hb (if_pos (Nat.le_trans h (by decide)))
noncomputable def nD (cs : List Nat) : List DV := cs.map λ (c : Nat) => .int (c : Int)
theorem z0A {rows : List (List Int)} : cmpD .Eq (rLs rows) (.lst []) = some rows.isEmpty := by
 have p : (rLs rows).plain 60 = true := by
  show DV.plains 59 (rows.map lI) = true
  induction rows with
  | nil => rfl
  | cons r rows ih =>
   show (DV.plains 58 (r.map DV.int) && DV.plains 59 (rows.map lI)) = true
   rw [ih, Bool.and_true]
   clear ih
   induction r with
   | nil => rfl
   | cons x r ih => show (true && DV.plains 58 (r.map DV.int)) = true; rw [ih]; rfl
 show (if ((rLs rows).plain 60 && (DV.lst []).plain 60) = true then some (deq (rLs rows) (.lst [])) else none) = _
 rw [p, if_pos (show (true && DV.plain 60 (DV.lst [])) = true by rfl)]
 cases rows <;> rfl
end k41
end
section
set_option exponentiation.threshold 3000
namespace k41
open PySem L2
variable {fu k : Nat} {F : Nat -> List DV -> Option Ou} {δ : List Sv} {ds : List DV} {cl : Cl}
theorem z0o (j : Nat) : sg j = 1 \/ sg j = -1 := by unfold sg; split; exact .inl rfl; exact .inr rfl
theorem at_n {cs : List Nat} {j : Nat} (h : j < cs.length) : ixD (.lst (nD cs)) (.int (j : Int)) = some (.int ((cs.getD j 0 : Nat) : Int)) := by
 show atD (nD cs) (j : Int) = _
 unfold atD nD
 rw [List.length_map, q3n h, Option.bind_some, List.getElem?_map, List.getElem?_eq_getElem h, List.getD_eq_getElem?_getD, List.getElem?_eq_getElem h]
 rfl
theorem at_r {r : List Int} {c : Nat} (h : c < r.length) : ixD (lI r) (.int (c : Int)) = some (.int (rw1 r c)) := by
 show atD (r.map DV.int) (c : Int) = _
 unfold atD rw1
 rw [List.length_map, q3n h, Option.bind_some, List.getElem?_map, List.getElem?_eq_getElem h, List.getD_eq_getElem?_getD, List.getElem?_eq_getElem h]
 rfl
theorem at_0 {r : List Int} {rows : List (List Int)} : ixD (rLs (r :: rows)) (.int 0) = some (lI r) := by
 show atD (lI r :: rows.map lI) (((0 : Nat) : Int)) = _
 unfold atD
 rw [q3n (by rw [List.length_cons]; omega)]
 rfl
theorem q7L {r : List Int} {n c : Nat} (h : r.length = n) (hx : ∀ x ∈ r, x.natAbs <= Bd) (hc : c < n) : (rw1 r c).natAbs <= Bd := by
 unfold rw1
 rw [List.getD_eq_getElem?_getD, List.getElem?_eq_getElem (by omega)]
 exact hx _ (List.getElem_mem _)
theorem bd7 : ∀ m, m <= 6 -> ∀ l, l <= 6 -> (Bd * (l + 1)) ^ m < 2 ^ 2000 := by decide +kernel
theorem z4n : Bd < 2 ^ 2000 := by decide +kernel
theorem z6r {n : Nat} {rows : List (List Int)} {cs : List Nat} (hr : ∀ r ∈ rows, r.length = n /\ ∀ x ∈ r, x.natAbs <= Bd) (hc : ∀ c ∈ cs, c < n) (h1 : rows.length <= 6) (h2 : cs.length <= 6) : (dt (rows.map rw1) cs).natAbs < 2 ^ 2000 := by
 refine Nat.lt_of_le_of_lt (z0C (B := Bd) (n := n) (rows.map rw1) cs (λ f hf c hc' => ?_) hc) ?_
 ·obtain ⟨r, hr', rfl⟩ := List.mem_map.mp hf
  exact q7L (hr r hr').1 (hr r hr').2 hc'
 ·rw [List.length_map]
  exact bd7 _ h1 _ h2
theorem q8A {cs : List Nat} {j x : Nat} (h : x ∈ cs.eraseIdx j) : x ∈ cs := List.mem_of_mem_eraseIdx h
theorem q9Q (cs : List Nat) (j : Nat) : (nD cs).take j ++ (nD cs).drop (j + 1) = nD (cs.eraseIdx j) := by
 unfold nD
 rw [List.eraseIdx_eq_take_drop_succ, List.map_append, List.map_take, List.map_drop]
noncomputable abbrev Sd (a b : DV) (f s : Int) (z : Sv) : List Sv := [.val a, .val b, .val (.int f), .val (.int s), z]
noncomputable def duB : List MS := [.iff (.cmp .NotEq (.ix (.ix (.var 0) (.int 0)) (.ix (.var 1) (.var 4))) (.int 0)) [.set 2 false (.bin .Add (.var 2) (.bin .Mult (.bin .Mult (.var 3) (.ix (.ix (.var 0) (.int 0)) (.ix (.var 1) (.var 4)))) (.call 7 [.slf (.var 0) (.int 1), .bin .Add (.slt (.var 1) (.var 4)) (.slf (.var 1) (.bin .Add (.var 4) (.int 1)))])))] [], .set 3 false (.bin .Sub (.int 0) (.var 3))]
theorem z3j {n : Nat} (hn : n <= 6) : ∀ (rows : List (List Int)) (cs : List Nat) (k : Nat), rows.length < k -> (∀ r ∈ rows, r.length = n /\ ∀ x ∈ r, x.natAbs <= Bd) -> (∀ c ∈ cs, c < n) -> cs.length <= 6 -> rows.length <= 6 ->
  run G k41.T fu k 7 [rLs rows, .lst (nD cs)] = some (.v (.int (dt (rows.map rw1) cs)) false)
 | rows, cs, 0, h, _, _, _, _ => absurd h (Nat.not_lt_zero _)
 | [], cs, k + 1, _, _, _, _, _ => by
  rw [q1X (fd := q1k) rfl rfl]
  unfold q1k
  exact q3i (q8j (q0P (q3u (x := rLs []) (y := .lst []) (cy := .fresh) (q0a rfl) rfl (z0A (rows := [])))) (q2L rfl))
 | r :: rows, cs, k + 1, hk, hr, hc, h6, h6' => by
  rw [List.length_cons] at hk h6'
  obtain ⟨hr1, hr2⟩ := hr r (List.mem_cons_self ..)
  rw [q1X (fd := q1k) rfl rfl]
  unfold q1k
  obtain ⟨δ1, lp, z, rfl⟩ := q2I (i := 4) (I := λ j δ => ∃ z : Sv, δ = Sd (rLs (r :: rows)) (.lst (nD cs)) (((List.range j).map λ t => sg t * (rw1 r (cs.getD t 0) * dt (rows.map rw1) (cs.eraseIdx t))).sum) (sg j) z)
   (body := λ δ' => evSs G (run G k41.T fu k) fu duB δ') cs.length 0 (δ := Sd (rLs (r :: rows)) (.lst (nD cs)) 0 1 .no)
   (λ j hj δ I => by
    obtain ⟨z, rfl⟩ := I
    rw [show (0 : Int) + (j : Int) = j by omega, List.range_succ, List.map_append, List.sum_append]
    generalize ((List.range j).map λ t => sg t * (rw1 r (cs.getD t 0) * dt (rows.map rw1) (cs.eraseIdx t))).sum = S
    have hcj : cs.getD j 0 < n := hc _ (by rw [List.getD_eq_getElem?_getD, List.getElem?_eq_getElem hj]; exact List.getElem_mem hj)
    have wd : ∀ {f s : Int}, evE G (run G k41.T fu k) (.ix (.ix (.var 0) (.int 0)) (.ix (.var 1) (.var 4))) (Sd (rLs (r :: rows)) (.lst (nD cs)) f s (.val (.int (j : Int)))) = some (.ok (.int (rw1 r (cs.getD j 0))) .strong) := λ {f s} =>
     q1p (cx := .strong) (q1p (x := rLs (r :: rows)) (cx := .strong) (q0a rfl) q0f at_0) (q1p (cx := .strong) (q0a rfl) (q0a rfl) (at_n hj)) (at_r (by omega))
    have c0 := b_ne (wd (f := S) (s := sg j)) (q0f (i := 0))
    have st : ∀ f : Int, evS G (run G k41.T fu k) fu (.set 3 false (.bin .Sub (.int 0) (.var 3))) (Sd (rLs (r :: rows)) (.lst (nD cs)) f (sg j) (.val (.int (j : Int)))) = some (.nx (Sd (rLs (r :: rows)) (.lst (nD cs)) f (sg (j + 1)) (.val (.int (j : Int))))) := λ f => by
     have := q0E (fu := fu) (i := 3) (q5j (q0f (G := G) (F := run G k41.T fu k) (i := 0) (δ := Sd (rLs (r :: rows)) (.lst (nD cs)) f (sg j) (.val (.int (j : Int))))) (q0a (n := 3) (d := .int (sg j)) rfl)) rfl
     rw [show (0 : Int) - sg j = sg (j + 1) by rw [q8o]; omega] at this
     exact this
    have fin : ∀ f : Int, f = S + sg j * (rw1 r (cs.getD j 0) * dt (rows.map rw1) (cs.eraseIdx j)) -> ∃ z : Sv, Sd (rLs (r :: rows)) (.lst (nD cs)) f (sg (j + 1)) (.val (.int (j : Int))) = Sd (rLs (r :: rows)) (.lst (nD cs)) (S + (List.map (λ t => sg t * (rw1 r (cs.getD t 0) * dt (rows.map rw1) (cs.eraseIdx t))) [j]).sum) (sg (j + 1)) z := λ f hf => ⟨.val (.int (j : Int)), by rw [hf, List.map_cons, List.map_nil, List.sum_cons, List.sum_nil, Int.add_zero]⟩
    by_cases hw : rw1 r (cs.getD j 0) = 0
    ·rw [show (!(rw1 r (cs.getD j 0) == 0)) = false by rw [hw]; rfl] at c0
     refine ⟨_, ?_, fin S (by rw [hw, Int.zero_mul, Int.mul_zero, Int.add_zero])⟩
     unfold duB
     exact q1R (q0P c0) (q0w (st S) rfl)
    ·rw [show (!(rw1 r (cs.getD j 0) == 0)) = true by rw [show (rw1 r (cs.getD j 0) == 0) = false from beq_eq_false_iff_ne.mpr hw]; rfl] at c0
     have he : (cs.eraseIdx j).length <= 6 := Nat.le_trans (List.length_eraseIdx_le ..) h6
     have hce : ∀ c ∈ cs.eraseIdx j, c < n := λ c hc' => hc c (q8A hc')
     have ih := z3j hn rows (cs.eraseIdx j) k (by omega) (λ r' hr' => hr r' (List.mem_cons_of_mem _ hr')) hce he (by omega)
     have a1 := q8T (F := run G k41.T fu k) (a := .var 0) (b := .int 1) (h := 1) (c := .strong) (δ := Sd (rLs (r :: rows)) (.lst (nD cs)) S (sg j) (.val (.int (j : Int)))) (q0a rfl) q0f
     have j1 : evE G (run G k41.T fu k) (.bin .Add (.var 4) (.int 1)) (Sd (rLs (r :: rows)) (.lst (nD cs)) S (sg j) (.val (.int (j : Int)))) = some (.ok (.int ((j + 1 : Nat) : Int)) .strong) := by
      have := q3e (q0a (G := G) (F := run G k41.T fu k) (n := 4) (d := .int (j : Int)) (δ := Sd (rLs (r :: rows)) (.lst (nD cs)) S (sg j) (.val (.int (j : Int)))) rfl) (q0f (i := 1))
      rw [show (j : Int) + 1 = ((j + 1 : Nat) : Int) by push_cast; rfl] at this
      exact this
     have a2 := z5X (z4l (F := run G k41.T fu k) (a := .var 1) (b := .var 4) (h := j) (c := .strong) (δ := Sd (rLs (r :: rows)) (.lst (nD cs)) S (sg j) (.val (.int (j : Int)))) (q0a rfl) (q0a rfl)) (q8T (a := .var 1) (h := j + 1) (c := .strong) (q0a rfl) j1) (by
      unfold nD
      rw [List.length_take, List.length_drop, List.length_map]
      omega)
     rw [q9Q] at a2
     have cl := q0W (G := G) (F := run G k41.T fu k) (f := 7) (q0g a1 (q0g a2 q0C)) rfl ih
     have hm : (sg j * rw1 r (cs.getD j 0)).natAbs < 2 ^ 2000 := by
      rw [Int.natAbs_mul]
      have := q7L hr1 hr2 hcj
      rcases z0o j with z | z <;> rw [z] <;> simp only [Int.natAbs_neg, Int.natAbs_one, Nat.one_mul] <;> exact Nat.lt_of_le_of_lt this z4n
     have m := q3e (q0a (G := G) (F := run G k41.T fu k) (n := 2) (d := .int S) (δ := Sd (rLs (r :: rows)) (.lst (nD cs)) S (sg j) (.val (.int (j : Int)))) rfl) (q3s (q3s (q0a (n := 3) (d := .int (sg j)) rfl) wd (z0R (z0o j))) cl (q6q hm (z6r (λ r' hr' => hr r' (List.mem_cons_of_mem _ hr')) hce (by omega) he)))
     refine ⟨_, ?_, fin (S + sg j * rw1 r (cs.getD j 0) * dt (rows.map rw1) (cs.eraseIdx j)) (by rw [Int.mul_assoc])⟩
     unfold duB
     exact q5i (q0P c0) (q0w (q0E m rfl) rfl) (q0w (st _) rfl)) ⟨.no, rfl⟩
  have hl : evE G (run G k41.T fu k) (.bi .len [.var 1]) (Sd (rLs (r :: rows)) (.lst (nD cs)) 0 1 .no) = some (.ok (.int (cs.length : Int)) .strong) := by
   have := q5s (F := run G k41.T fu k) (e := .var 1) (ds := nD cs) (δ := Sd (rLs (r :: rows)) (.lst (nD cs)) 0 1 .no) (q0a rfl)
   unfold nD at this
   rw [List.length_map] at this
   exact this
  have e0 : dt ((r :: rows).map rw1) cs = ((List.range cs.length).map λ t => sg t * (rw1 r (cs.getD t 0) * dt (rows.map rw1) (cs.eraseIdx t))).sum := q5u cs _
  rw [e0]
  exact q3i (q1R (q0P (q3u (x := rLs (r :: rows)) (y := .lst []) (cy := .fresh) (q0a rfl) rfl (z0A (rows := r :: rows)))) (q0w (q0E (d := .int 0) (cl := .strong) rfl rfl) (q0w (q0E (d := .int 1) (cl := .strong) rfl rfl) (q6U (z0h hl (by omega)) (.inr rfl) lp (q2L (q4i (q0a rfl)))))))
end k41
end
section
set_option exponentiation.threshold 3000
namespace k41
open PySem L2
variable {fu k : Nat} {F : Nat -> List DV -> Option Ou} {δ : List Sv} {ds : List DV} {cl : Cl} {n : Nat} {rows : List (List Int)}
theorem q8Y {x : Int} : run G T fu (k + 1) 3 [.int x] = some (.v (.bl true) false) := by
 rw [q1X (fd := q2f) rfl rfl]
 unfold q2f
 exact q3i (q2L rfl)
theorem z0L : ∀ r : List Int, DV.plains 58 (r.map DV.int) = true
 | [] => rfl
 | x :: r => by show (true && DV.plains 58 (r.map DV.int)) = true; rw [z0L r]; rfl
theorem q7v : ∀ rows : List (List Int), DV.plains 59 (rows.map lI) = true
 | [] => rfl
 | r :: rows => by show (DV.plains 58 (r.map DV.int) && DV.plains 59 (rows.map lI)) = true; rw [z0L, q7v rows]; rfl
theorem q7R : ∀ r : List Int, deqs (r.map DV.int) (r.map DV.int) = true
 | [] => rfl
 | x :: r => by show ((x == x) && deqs (r.map DV.int) (r.map DV.int)) = true; rw [q7R r, beq_self_eq_true]; rfl
theorem q5V : ∀ rows : List (List Int), deqs (rows.map lI) (rows.map lI) = true
 | [] => rfl
 | r :: rows => by show (deqs (r.map DV.int) (r.map DV.int) && deqs (rows.map lI) (rows.map lI)) = true; rw [q7R, q5V rows]; rfl
theorem z2W : cmpD .Eq (rLs rows) (rLs rows) = some true := by
 show (if (DV.plains 59 (rows.map lI) && DV.plains 59 (rows.map lI)) = true then some (deqs (rows.map lI) (rows.map lI)) else none) = _
 rw [q7v, if_pos (show (true && true) = true from rfl), q5V]
theorem q5H {e : ME} {c : Cl} (h : evE G F e δ = some (.ok (.lst ds) c)) : evE G F (.bi .list [e]) δ = some (.ok (.lst ds) (Cl.anew c c)) := by
 have q : evE G F (.bi .list [e]) δ = Rs.thn (evEs G F [e] δ) (λ l => q6N l) := rfl
 rw [q, q0g h q0C]
 rfl
theorem few6 {α : Type} {l : List α} (h : l.length <= 6) : l.length <= mostLen := Nat.le_trans h (by decide)
theorem q5h {d : Int} (hn : n <= 6) (hf : 10 <= fu) (h : Sqr n rows) (hd : d = dv rows) : run G T fu (k + 4) 8 [rLs rows, .int d] = some (.v (.bl true) false) := by
 subst hd
 rw [q1X (fd := q1Q) rfl rfl]
 unfold q1Q
 have cm := q2O (F := run G T fu (k + 3)) (δ := q0L 4 [rLs rows, .int (dv rows)]) (l := rows) (h := lI) (f := lI) (elt := .bi .list [.var 0]) (tg := .one 0) (it := .var 0) (fr := [none]) (cl := .strong) (by rw [q0a (d := rLs rows) rfl]; rfl) (by decide) (few6 (by rw [h.1]; exact hn)) (λ r _ => ⟨[.val (lI r)], .fresh, rfl, q5H (c := .strong) (q0a rfl), rfl⟩)
 have b1 := b_eq (q0a (G := G) (F := run G T fu (k + 3)) (n := 3) (d := .int (dv rows)) (δ := [.val (rLs rows), .val (.int (dv rows)), .val (rLs rows), .val (.int (dv rows))]) rfl) (q0a (n := 1) (d := .int (dv rows)) rfl)
 rw [beq_self_eq_true] at b1
 exact q3i (q0w (q0E (d := rLs rows) (cl := .fresh) cm rfl) (q0w (q0E (d := .int (dv rows)) (cl := .strong) (q0W (q0g (q0a rfl) q0C) rfl (q4t hn hf h)) rfl) (q2L (q4i (cl := .strong) (q5y (q0W (q0g (q0a rfl) q0C) rfl q8Y) (q5y b1 (q7r (q3u (q0a rfl) (q0a rfl) z2W))))))))
noncomputable def ent (rows : List (List Int)) (i j : Nat) : Int := (rows.getD i []).getD j 0
noncomputable def tr (n : Nat) (rows : List (List Int)) : List (List Int) := (List.range n).map λ c => rows.map λ r => r.getD c 0
theorem q7g (h : rows.length = n) : rows = (List.range n).map λ i => rows.getD i [] := by
 apply List.ext_getElem?
 intro i
 rw [List.getElem?_map]
 by_cases hi : i < n
 ·rw [List.getElem?_range hi, List.getElem?_eq_getElem (by omega)]
  show _ = some (rows.getD i [])
  rw [List.getD_eq_getElem?_getD, List.getElem?_eq_getElem (by omega)]
  rfl
 ·rw [List.getElem?_eq_none (by omega), List.getElem?_eq_none (by rw [List.length_range]; omega)]
  rfl
theorem z6a (h : Sqr n rows) : dv (tr n rows) = dv rows := by
 have l1 : (tr n rows).length = n := by unfold tr; rw [List.length_map, List.length_range]
 unfold dv
 rw [l1, h.1]
 have e1 : (tr n rows).map rw1 = (List.range n).map λ j i => ent rows i j := by
  unfold tr
  rw [List.map_map]
  apply List.map_congr_left
  intro c _
  funext i
  show (rows.map λ r => r.getD c 0).getD i 0 = (rows.getD i []).getD c 0
  rw [List.getD_eq_getElem?_getD, List.getElem?_map, show rows.getD i [] = rows[i]?.getD [] from List.getD_eq_getElem?_getD]
  cases rows[i]? <;> rfl
 have e2 : rows.map rw1 = (List.range n).map λ i j => ent rows i j := by
  conv => lhs; rw [q7g h.1]
  rw [List.map_map]
  rfl
 rw [e1, e2]
 exact z5K (ent rows) (List.range n) (List.range n) rfl
theorem z4X (h : Sqr n rows) : Sqr n (tr n rows) := by
 refine ⟨by unfold tr; rw [List.length_map, List.length_range], λ r hr => ?_⟩
 obtain ⟨c, hc, rfl⟩ := List.mem_map.mp hr
 have hc' := List.mem_range.mp hc
 refine ⟨by rw [List.length_map, h.1], λ x hx => ?_⟩
 obtain ⟨r, hr', rfl⟩ := List.mem_map.mp hx
 exact q7L (h.2 r hr').1 (h.2 r hr').2 hc'
theorem q4r {α : Type} {l : List α} {i : Nat} (h : i < l.length) : l = l.take i ++ l[i] :: l.drop (i + 1) := by
 rw [List.getElem_cons_drop, List.take_append_drop]
theorem q3H {α : Type} {A C : List α} {x z : α} : (A ++ x :: C).set A.length z = A ++ z :: C := by
 rw [List.set_append_right _ _ (Nat.le_refl _), Nat.sub_self]
 rfl
theorem q8u {i j : Nat} (hij : i < j) (hj : j < rows.length) : dt (((rows.set i (rows.getD j [])).set j (rows.getD i [])).map rw1) (List.range n) = - dt (rows.map rw1) (List.range n) := by
 obtain ⟨A, x, B, y, C, e, lA, lB⟩ : ∃ A x B y C, rows = A ++ x :: (B ++ y :: C) /\ A.length = i /\ (A ++ x :: B).length = j := by
  have h1 := q4r (l := rows) (i := i) (by omega)
  have hj2 : j - (i + 1) < (rows.drop (i + 1)).length := by rw [List.length_drop]; omega
  have h2 := q4r (l := rows.drop (i + 1)) (i := j - (i + 1)) hj2
  refine ⟨rows.take i, rows[i], (rows.drop (i + 1)).take (j - (i + 1)), (rows.drop (i + 1))[j - (i + 1)], (rows.drop (i + 1)).drop (j - (i + 1) + 1), ?_, ?_, ?_⟩
  ·rw [← h2]; exact h1
  ·rw [List.length_take]; omega
  ·rw [List.length_append, List.length_cons, List.length_take, List.length_take, List.length_drop]; omega
 have gi : rows.getD i [] = x := by
  rw [e, List.getD_eq_getElem?_getD, List.getElem?_append_right (by omega), lA, Nat.sub_self]
  rfl
 have e' : rows = (A ++ x :: B) ++ y :: C := by rw [e, List.append_assoc]; rfl
 have gj : rows.getD j [] = y := by
  rw [e', List.getD_eq_getElem?_getD, List.getElem?_append_right (by omega), lB, Nat.sub_self]
  rfl
 rw [gi, gj]
 have s1 : rows.set i y = A ++ y :: (B ++ y :: C) := by rw [e, ← lA]; exact q3H
 have s2 : (rows.set i y).set j x = A ++ y :: (B ++ x :: C) := by
  rw [s1, show A ++ y :: (B ++ y :: C) = (A ++ y :: B) ++ y :: C by rw [List.append_assoc]; rfl, show j = (A ++ y :: B).length by rw [← lB, List.length_append, List.length_append]; rfl, q3H, List.append_assoc]
  rfl
 rw [s2, e]
 simp only [List.map_append, List.map_cons]
 exact z1c _ _ _ _ _ _
theorem z1W {i j : Nat} (hi : i < rows.length) (hj : j < rows.length) (hij : i ≠ j) : dv ((rows.set i (rows.getD j [])).set j (rows.getD i [])) = - dv rows := by
 unfold dv
 rw [List.length_set, List.length_set]
 rcases Nat.lt_or_gt_of_ne hij with h | h
 ·exact q8u h hj
 ·rw [List.set_comm _ _ hij]
  exact q8u h hi
theorem z0l {i : Nat} {t : Int} (hi : i < rows.length) : dv (rows.set i ((rows.getD i []).map λ x => t * x)) = t * dv rows := by
 unfold dv
 rw [List.length_set]
 obtain ⟨A, x, C, e, lA⟩ : ∃ A x C, rows = A ++ x :: C /\ A.length = i := ⟨_, _, _, q4r (l := rows) (i := i) hi, by rw [List.length_take]; omega⟩
 have gi : rows.getD i [] = x := by
  rw [e, List.getD_eq_getElem?_getD, List.getElem?_append_right (by omega), lA, Nat.sub_self]
  rfl
 have s1 : rows.set i (x.map λ x => t * x) = A ++ (x.map λ x => t * x) :: C := by rw [e, ← lA]; exact q3H
 rw [gi, s1]
 have ew : rw1 (x.map λ x => t * x) = λ c => t * rw1 x c := by
  funext c
  unfold rw1
  rw [List.getD_eq_getElem?_getD, List.getElem?_map, List.getD_eq_getElem?_getD]
  cases x[c]? with
  | none => show (0 : Int) = t * 0; omega
  | some x => rfl
 generalize List.range rows.length = cs
 rw [e]
 simp only [List.map_append, List.map_cons]
 rw [ew]
 exact q9q _ _ _ _ _
end k41
end
section
set_option exponentiation.threshold 3000
namespace k41
open PySem L2
variable {fu k : Nat} {F : Nat -> List DV -> Option Ou} {δ : List Sv} {ds : List DV} {cl : Cl}
noncomputable def RB (n : Nat) (rows : List (List Int)) : Prop := rows.length = n /\ ∀ r ∈ rows, r.length = n /\ ∀ x ∈ r, x.natAbs <= 2 ^ 72
theorem RB.sqr {n : Nat} {rows : List (List Int)} (h : RB n rows) : Sqr n rows := ⟨h.1, λ r hr => ⟨(h.2 r hr).1, λ x hx => Nat.le_trans ((h.2 r hr).2 x hx) (by decide)⟩⟩
theorem RB.set {n i : Nat} {rows : List (List Int)} {r : List Int} (h : RB n rows) (h1 : r.length = n) (h2 : ∀ x ∈ r, x.natAbs <= 2 ^ 72) : RB n (rows.set i r) := ⟨by rw [List.length_set]; exact h.1, λ q hq => by
 rcases List.mem_or_eq_of_mem_set hq with z | z
 ·exact h.2 q z
 ·rw [z]; exact ⟨h1, h2⟩⟩
theorem z1N {ds : List DV} {a m : Nat} (h : a + m <= ds.length) : cutD ds (some (a : Int)) (some ((a : Int) + m)) = (ds.drop a).take m := by
 unfold cutD slIx
 dsimp only
 rw [if_neg (by omega), if_neg (by omega), Int.toNat_natCast, show ((a : Int) + m).toNat = a + m by omega, Nat.min_eq_left (by omega), Nat.min_eq_left (by omega), Nat.add_sub_cancel_left]
theorem z4H (y : Int) : ∃ f : Int, 0 < f /\ f < 2 ^ 69 /\ ixD (.lst [.int 19, .int (2 * 10 ^ 20 + 1)]) (.int (y % 3 / 2)) = some (.int f) := by
 have : y % 3 / 2 = 0 \/ y % 3 / 2 = 1 := by omega
 rcases this with h | h <;> rw [h]
 ·exact ⟨19, by decide, by decide, rfl⟩
 ·exact ⟨2 * 10 ^ 20 + 1, by decide, by decide, rfl⟩
theorem z3T {x f : Int} (h0 : 0 < f) (h1 : f < 2 ^ 69) : (x % f - f / 2).natAbs <= 2 ^ 70 := by
 have a := Int.emod_nonneg x (b := f) (by omega)
 have b := Int.emod_lt_of_pos x h0
 have c : 0 <= f / 2 := by omega
 have d : f / 2 <= f := by omega
 omega
noncomputable abbrev Sq (ns : List Int) (xs : List Int) (n : Nat) (f : Int) (w z r a b : Sv) : List Sv := [.val (.scr ns), .val (lI xs), .val (.int (n : Int)), .val (.int f), w, z, r, a, b]
theorem z4b {ws : List Int} {j : Nat} {N : Int} : lI (ws.set j N) = .lst ((ws.map DV.int).set j (.int N)) := by
 show DV.lst ((ws.set j N).map DV.int) = _
 rw [List.map_set]
theorem q5O {rows : List (List Int)} {j : Nat} {r : List Int} : rLs (rows.set j r) = .lst ((rows.map lI).set j (lI r)) := by
 show DV.lst ((rows.set j r).map lI) = _
 rw [List.map_set]
theorem z4s {ns : List Int} {j : Nat} (h : 2 + j < ns.length) : ∃ v, ixD (.scr ns) (.int (2 + (j : Int))) = some (.int v) := by
 refine ⟨ns[2 + j], ?_⟩
 rw [show (2 : Int) + (j : Int) = ((2 + j : Nat) : Int) by push_cast; rfl]
 show ((q2A ns.length ((2 + j : Nat) : Int)).bind λ j => ns[j]?).map DV.int = _
 rw [q3n h, Option.bind_some, List.getElem?_eq_getElem h]
 rfl
theorem q2T {rows : List (List Int)} {n : Nat} (h : rows.length = n) (h0 : 0 < n) (v : Int) : ∃ i, i < n /\ v % (n : Int) = (i : Int) /\ ixD (rLs rows) (.int (v % (n : Int))) = some (lI (rows.getD i [])) := by
 obtain ⟨i, hi⟩ := Int.eq_ofNat_of_zero_le (Int.emod_nonneg v (b := (n : Int)) (by omega))
 have hi2 : i < n := by have := Int.emod_lt_of_pos v (b := (n : Int)) (by omega); omega
 refine ⟨i, hi2, hi, ?_⟩
 rw [hi]
 show atD (rows.map lI) (i : Int) = _
 unfold atD
 rw [List.length_map, q3n (by omega), Option.bind_some, List.getElem?_map, List.getElem?_eq_getElem (by omega), List.getD_eq_getElem?_getD, List.getElem?_eq_getElem (by omega)]
 rfl
theorem q9g : ∀ a b : List Int, zpD (a.map DV.int) (b.map DV.int) = (a.zip b).map λ p => .tup [.int p.1, .int p.2]
 | [], [] => rfl
 | [], _ :: _ => rfl
 | x :: a, [] => rfl
 | x :: a, y :: b => by
  have ih := q9g a b
  show DV.tup [.int x, .int y] :: zpD (a.map DV.int) (b.map DV.int) = _
  rw [ih]
  rfl
theorem zp_w {a b : ME} {x y : List DV} (ha : evE G F a δ = some (.ok (.lst x) .strong)) (hb : evE G F b δ = some (.ok (.lst y) .strong)) : q0N (evE G F (.zp a b) δ) = some (.ok (zpD x y) .strong) := by
 have q : evE G F (.zp a b) δ = Re.thn (evE G F a δ) (λ x c => Re.thn (evE G F b δ) λ y c' => zipD x y c c') := by rw [evE]
 rw [q, ha, q0M, hb, q0M]
 rfl
theorem q2Q {rows : List (List Int)} {n i : Nat} (h : RB n rows) (hi : i < n) : (rows.getD i []).length = n /\ ∀ x ∈ rows.getD i [], x.natAbs <= 2 ^ 72 := by
 rw [List.getD_eq_getElem?_getD, List.getElem?_eq_getElem (by have := h.1; omega)]
 exact h.2 _ (List.getElem_mem _)
theorem z1a (ns : List Int) (hns : ns.length <= 63) {xs : List Int} (hx : xs.length = 46) {n : Nat} (hn : n <= 6) {f : Int} (h0 : 0 < f) (h1 : f < 2 ^ 69) : ∃ (ws : List Int) (z : Sv), ws.length = 36 /\ (∀ x ∈ ws, x.natAbs <= 2 ^ 70) /\ ∀ r : List MS,
  evSs G F fu (.set 4 true (.comp (.bin .Sub (.bin .Mod (.var 0) (.var 1)) (.bin .FloorDiv (.var 1) (.int 2))) (.one 0) (.slf (.var 1) (.int 10)) [none, some 3]) :: .fo (.one 5) (.rng [.bi .min [.bin .Mult (.var 2) (.var 2), .bin .Sub (.bi .len [.var 0]) (.int 2)]]) [.seti 4 (.var 5) (.bin .Sub (.bin .Mod (.ix (.var 0) (.bin .Add (.int 2) (.var 5))) (.var 3)) (.bin .FloorDiv (.var 3) (.int 2)))] :: r) (Sq ns xs n f .no .no .no .no .no) = evSs G F fu r (Sq ns xs n f (.own (lI ws)) z .no .no .no) := by
 have cm := q2O (F := F) (δ := Sq ns xs n f .no .no .no .no .no) (l := xs.drop 10) (h := DV.int) (f := λ x => .int (x % f - f / 2)) (elt := .bin .Sub (.bin .Mod (.var 0) (.var 1)) (.bin .FloorDiv (.var 1) (.int 2))) (tg := .one 0) (it := .slf (.var 1) (.int 10)) (fr := [none, some 3]) (cl := .fresh) (by
   have e10 : evE G F (.slf (.var 1) (.int 10)) (Sq ns xs n f .no .no .no .no .no) = some (.ok (.lst ((xs.map DV.int).drop 10)) .fresh) := q8T (h := 10) (c := .strong) (q0a rfl) q0f
   rw [e10, List.map_drop]
   rfl) (by decide) (by rw [List.length_drop, hx]; decide) (λ x _ => ⟨[.val (.int x), .val (.int f)], .strong, rfl, q5j (q1U (q0a rfl) (q0a rfl) h0) (q9Z (q0a rfl) q0f (by decide)), rfl⟩)
 rw [show (xs.drop 10).map (λ x => DV.int (x % f - f / 2)) = ((xs.drop 10).map λ x => x % f - f / 2).map DV.int by rw [List.map_map]; rfl] at cm
 have mk1 : q2i (n : Int) (n : Int) = true := q6q (Nat.lt_of_le_of_lt (by omega : (n : Int).natAbs <= 6) (by decide)) (Nat.lt_of_le_of_lt (by omega : (n : Int).natAbs <= 6) (by decide))
 have nn : n * n <= 36 := Nat.mul_le_mul hn hn
 obtain ⟨b, hb, hb1, hb2⟩ : ∃ b : Int, (if (ns.length : Int) - 2 < (n : Int) * n then (ns.length : Int) - 2 else (n : Int) * n) = b /\ b <= ((n * n : Nat) : Int) /\ b <= (ns.length : Int) - 2 := by
  refine ⟨_, rfl, ?_, ?_⟩ <;> split <;> push_cast <;> omega
 have hb3 : -1000 <= b := by
  rw [← hb]
  have : (0 : Int) <= (n : Int) * n := Int.mul_nonneg (Int.natCast_nonneg n) (Int.natCast_nonneg n)
  split <;> omega
 obtain ⟨δ1, l1, ws, z, ⟨hw, hwb⟩, rfl⟩ := q2I (i := 5) (I := λ _ δ => ∃ (ws : List Int) (z : Sv), (ws.length = 36 /\ ∀ x ∈ ws, x.natAbs <= 2 ^ 70) /\ δ = Sq ns xs n f (.own (lI ws)) z .no .no .no)
  (body := λ δ' => evSs G F fu [.seti 4 (.var 5) (.bin .Sub (.bin .Mod (.ix (.var 0) (.bin .Add (.int 2) (.var 5))) (.var 3)) (.bin .FloorDiv (.var 3) (.int 2)))] δ') b.toNat 0 (δ := Sq ns xs n f (.own (lI ((xs.drop 10).map λ x => x % f - f / 2))) .no .no .no .no)
  (λ j hj δ I => by
   obtain ⟨ws, z, ⟨hw, hwb⟩, rfl⟩ := I
   rw [show (0 : Int) + (j : Int) = j by omega]
   obtain ⟨v, hv⟩ := z4s (ns := ns) (j := j) (by omega)
   have ev := q5j (q1U (q1p (G := G) (F := F) (δ := Sq ns xs n f (.own (lI ws)) (.val (.int (j : Int))) .no .no .no) (q0a (n := 0) rfl) (q3e (q0f (i := 2)) (q0a (n := 5) rfl)) hv) (q0a (n := 3) (d := .int f) rfl) h0) (q9Z (q0a (n := 3) (d := .int f) rfl) (q0f (i := 2)) (by decide))
   obtain ⟨N, hN⟩ : ∃ N : Int, v % f - f / 2 = N := ⟨_, rfl⟩
   have hNb : N.natAbs <= 2 ^ 70 := by rw [← hN]; exact z3T h0 h1
   rw [hN] at ev
   refine ⟨_, q0w (q2X (ds := ws.map DV.int) (j := j) (n := j) (cx := .strong) rfl ev (q0a rfl) rfl (q3n (by rw [List.length_map, hw]; omega))) rfl, ws.set j N, .val (.int (j : Int)), ⟨by rw [List.length_set]; exact hw, λ x hx => (List.mem_or_eq_of_mem_set hx).elim (hwb x) λ e => by rw [e]; exact hNb⟩, ?_⟩
   rw [z4b]
   rfl) ⟨_, .no, ⟨by rw [List.length_map, List.length_drop, hx], λ x hx => by obtain ⟨y, _, rfl⟩ := List.mem_map.mp hx; exact z3T h0 h1⟩, rfl⟩
 have em : evE G F (.bi .min [.bin .Mult (.var 2) (.var 2), .bin .Sub (.bi .len [.var 0]) (.int 2)]) (Sq ns xs n f (.own (lI ((xs.drop 10).map λ x => x % f - f / 2))) .no .no .no .no) = some (.ok (.int b) .strong) := by
  have e1 : evE G F (.bi .len [.var 0]) (Sq ns xs n f (.own (lI ((xs.drop 10).map λ x => x % f - f / 2))) .no .no .no .no) = some (.ok (.int ns.length) .strong) := rfl
  rw [z4W (q0g (q3s (q0a (n := 2) (d := .int n) rfl) (q0a (n := 2) (d := .int n) rfl) mk1) (q0g (q5j e1 q0f) q0C)), ← hb]
  rfl
 exact ⟨ws, z, hw, hwb, λ r => q0w (q4X cm) (q6U (z5S em (by omega) hb3) (.inr rfl) l1 rfl)⟩
theorem q9W (ns : List Int) (hns : ns.length <= 63) : ∃ (n : Nat) (rows : List (List Int)), n <= 6 /\ RB n rows /\ run G k41.T fu (k + 2) 6 [.scr ns] = some (.v (rLs rows) true) := by
 obtain ⟨v0, c0⟩ := z0t (fu := fu) (k := k) ns 0
 obtain ⟨xs, hx, st0⟩ := q5Y (fu := fu) (k := k) v0 46 (by decide)
 have at' : ∀ i : Int, 0 <= i -> i < 46 -> ∃ v, ixD (lI xs) (.int i) = some (.int v) := λ i h h' => q6y h (by rw [hx]; exact h')
 obtain ⟨a0, h0⟩ := at' 0 (by omega) (by omega)
 obtain ⟨a1, h1⟩ := at' 1 (by omega) (by omega)
 obtain ⟨a2, h2⟩ := at' 2 (by omega) (by omega)
 obtain ⟨a3, h3⟩ := at' 3 (by omega) (by omega)
 obtain ⟨a4, h4⟩ := at' 4 (by omega) (by omega)
 obtain ⟨a5, h5⟩ := at' 5 (by omega) (by omega)
 obtain ⟨a6, h6⟩ := at' 6 (by omega) (by omega)
 obtain ⟨a7, h7⟩ := at' 7 (by omega) (by omega)
 obtain ⟨a8, h8⟩ := at' 8 (by omega) (by omega)
 obtain ⟨n, hn⟩ : ∃ n : Nat, a0 % 7 = (n : Int) := ⟨(a0 % 7).toNat, by omega⟩
 have n6 : n <= 6 := by omega
 have nn : n * n <= 36 := Nat.mul_le_mul n6 n6
 obtain ⟨f, f0, f1, hf⟩ := z4H a1
 obtain ⟨ws, z, hw, hwb, eW⟩ := z1a (F := run G k41.T fu (k + 1)) (fu := fu) ns hns hx n6 f0 f1
 have nk : ∀ {i j : Int}, i.natAbs <= 36 -> j.natAbs <= 36 -> q2i i j = true := λ h h' => q6q (Nat.lt_of_le_of_lt h (by decide)) (Nat.lt_of_le_of_lt h' (by decide))
 have cm := q5U (F := run G k41.T fu (k + 1)) (δ := Sq ns xs n f (.own (lI ws)) z .no .no .no) (elt := .sl (.var 1) (.bin .Mult (.var 0) (.var 2)) (.bin .Add (.bin .Mult (.var 0) (.var 2)) (.var 2))) (tg := .one 0) (it := .rng [.var 2]) (fr := [none, some 4, some 2]) (f := λ d => match d with | .int j => lI ((ws.drop (j.toNat * n)).take n) | d => d) (ds := upTo 0 n) (cl := .fresh)
  (z0h (q0a rfl) (by omega)) (by decide) (by unfold L2.upTo; rw [List.length_map, List.length_range]; exact Nat.le_trans n6 (by decide)) (λ d hd => by
   obtain ⟨j, hj, rfl⟩ := q6A hd
   rw [show (0 : Int) + (j : Int) = j by omega]
   have jn : j * n + n <= 36 := by
    have : (j + 1) * n <= n * n := Nat.mul_le_mul_right _ hj
    rw [Nat.add_mul, Nat.one_mul] at this
    omega
   refine ⟨[.val (.int j), .own (lI ws), .val (.int n)], .fresh, rfl, ?_, rfl⟩
   show _ = some (Re.ok (lI ((ws.drop ((j : Int).toNat * n)).take n)) .fresh)
   have m1 := q3s (q0a (G := G) (F := run G k41.T fu (k + 1)) (n := 0) (d := .int (j : Int)) (δ := [.val (.int j), .own (lI ws), .val (.int n)]) rfl) (q0a (n := 2) (d := .int (n : Int)) rfl) (nk (by omega) (by omega))
   rw [show (j : Int) * (n : Int) = ((j * n : Nat) : Int) by push_cast; rfl] at m1
   have sl := z5t (F := run G k41.T fu (k + 1)) (a := .var 1) (ds := ws.map DV.int) (c := .top) (q2R rfl) m1 (q3e m1 (q0a (n := 2) (d := .int (n : Int)) rfl))
   rw [z1N (by rw [List.length_map, hw]; exact jn)] at sl
   rw [sl, Int.toNat_natCast]
   show some (Re.ok (.lst (((ws.map DV.int).drop (j * n)).take n)) .fresh) = some (Re.ok (.lst (((ws.drop (j * n)).take n).map DV.int)) .fresh)
   rw [List.map_take, List.map_drop])
 have hf0 : (upTo 0 n).map (λ d => match d with | .int j => lI ((ws.drop (j.toNat * n)).take n) | d => d) = ((List.range n).map λ j => (ws.drop (j * n)).take n).map lI := by
  unfold L2.upTo
  rw [List.map_map, List.map_map]
  apply List.map_congr_left
  intro j _
  show lI ((ws.drop (((0 : Int) + (j : Int)).toNat * n)).take n) = _
  rw [show ((0 : Int) + (j : Int)).toNat = j by omega]
  rfl
 rw [hf0] at cm
 obtain ⟨rows0, hr0⟩ : ∃ rows0, ((List.range n).map λ j => (ws.drop (j * n)).take n) = rows0 := ⟨_, rfl⟩
 rw [hr0] at cm
 have R0 : RB n rows0 := by
  rw [← hr0]
  refine ⟨by rw [List.length_map, List.length_range], λ r hr => ?_⟩
  obtain ⟨j, hj, rfl⟩ := List.mem_map.mp hr
  have hj' := List.mem_range.mp hj
  have jn : j * n + n <= 36 := by
   have : (j + 1) * n <= n * n := Nat.mul_le_mul_right _ hj'
   rw [Nat.add_mul, Nat.one_mul] at this
   omega
  exact ⟨by rw [List.length_take, List.length_drop, hw]; omega, λ x hx => Nat.le_trans (hwb x (List.mem_of_mem_drop (List.mem_of_mem_take hx))) (by decide)⟩
 have R0b : ∀ i < n, ∀ x ∈ rows0.getD i [], x.natAbs <= 2 ^ 70 := λ i hi x hx => by
  rw [← hr0, List.getD_eq_getElem?_getD, List.getElem?_map, List.getElem?_range hi] at hx
  exact hwb x (List.mem_of_mem_drop (List.mem_of_mem_take hx))
 obtain ⟨rows1, z7, z8, R1, e1⟩ : ∃ (rows1 : List (List Int)) (z7 z8 : Sv), RB n rows1 /\ ∀ r : List MS, evSs G (run G k41.T fu (k + 1)) fu (.iff (.and [.cmp .Gt (.var 2) (.int 2), .cmp .Eq (.bin .Mod (.ix (.var 1) (.int 2)) (.int 3)) (.int 0)]) [.set 7 false (.ix (.var 6) (.bin .Mod (.ix (.var 1) (.int 3)) (.var 2))), .set 8 false (.ix (.var 6) (.bin .Mod (.ix (.var 1) (.int 4)) (.var 2))), .seti 6 (.bin .Mod (.ix (.var 1) (.int 5)) (.var 2)) (.comp (.bin .Add (.var 0) (.bin .Mult (.var 1) (.bin .Mod (.ix (.var 2) (.int 6)) (.int 2)))) (.many [0, 1]) (.zp (.var 7) (.var 8)) [none, none, some 1])] [] :: r) (Sq ns xs n f (.own (lI ws)) z (.own (rLs rows0)) .no .no)
   = evSs G (run G k41.T fu (k + 1)) fu r (Sq ns xs n f (.own (lI ws)) z (.own (rLs rows1)) z7 z8) := by
  have g1 := b_gt (q0a (G := G) (F := run G k41.T fu (k + 1)) (n := 2) (d := .int (n : Int)) (δ := Sq ns xs n f (.own (lI ws)) z (.own (rLs rows0)) .no .no) rfl) (q0f (i := 2))
  have g2 := b_eq (q1U (q1p (G := G) (F := run G k41.T fu (k + 1)) (δ := Sq ns xs n f (.own (lI ws)) z (.own (rLs rows0)) .no .no) (q0a (n := 1) rfl) (q0f (i := 2)) h2) (q0f (i := 3)) (by decide)) (q0f (i := 0))
  cases t1 : decide ((2 : Int) < (n : Int)) with
  | false =>
   rw [t1] at g1
   exact ⟨rows0, .no, .no, R0, λ r => q1R (q0P (z3K g1)) rfl⟩
  | true =>
   rw [t1] at g1
   cases t2 : (a2 % 3 == 0) with
   | false =>
    rw [t2] at g2
    exact ⟨rows0, .no, .no, R0, λ r => q1R (q0P (q5y g1 (q7r g2))) rfl⟩
   | true =>
    rw [t2] at g2
    have n0 : 0 < n := by have := of_decide_eq_true t1; omega
    obtain ⟨i3, l3, _, x3⟩ := q2T R0.1 n0 a3
    obtain ⟨i4, l4, _, x4⟩ := q2T R0.1 n0 a4
    obtain ⟨i5, l5, m5, _⟩ := q2T R0.1 n0 a5
    have q3 := q2Q R0 l3
    have q4 := q2Q R0 l4
    obtain ⟨u, hu, hu2⟩ : ∃ u : Int, a6 % 2 = u /\ (u = 0 \/ u = 1) := ⟨_, rfl, by omega⟩
    have cz := q2O (F := run G k41.T fu (k + 1)) (δ := Sq ns xs n f (.own (lI ws)) z (.own (rLs rows0)) (.val (lI (rows0.getD i3 []))) (.val (lI (rows0.getD i4 [])))) (l := (rows0.getD i3 []).zip (rows0.getD i4 [])) (h := λ p => .tup [.int p.1, .int p.2]) (f := λ p => .int (p.1 + p.2 * u)) (elt := .bin .Add (.var 0) (.bin .Mult (.var 1) (.bin .Mod (.ix (.var 2) (.int 6)) (.int 2)))) (tg := .many [0, 1]) (it := .zp (.var 7) (.var 8)) (fr := [none, none, some 1]) (cl := .strong)
     (by rw [zp_w (x := (rows0.getD i3 []).map DV.int) (y := (rows0.getD i4 []).map DV.int) (q0a rfl) (q0a rfl), q9g]) (by decide) (by rw [List.length_zip, q3.1, q4.1, Nat.min_self]; exact Nat.le_trans n6 (by decide)) (λ p _ => by
      have eu := q1U (q1p (G := G) (F := run G k41.T fu (k + 1)) (δ := [.val (.int p.1), .val (.int p.2), .val (lI xs)]) (q0a (n := 2) rfl) (q0f (i := 6)) h6) (q0f (i := 2)) (by decide)
      rw [hu] at eu
      exact ⟨[.val (.int p.1), .val (.int p.2), .val (lI xs)], .strong, rfl, q3e (q0a rfl) (q3s (q0a rfl) eu (by unfold q2i; rcases hu2 with z | z <;> rw [z] <;> simp)), rfl⟩)
    rw [show ((rows0.getD i3 []).zip (rows0.getD i4 [])).map (λ p => DV.int (p.1 + p.2 * u)) = (((rows0.getD i3 []).zip (rows0.getD i4 [])).map λ p => p.1 + p.2 * u).map DV.int by rw [List.map_map]; rfl] at cz
    refine ⟨rows0.set i5 (((rows0.getD i3 []).zip (rows0.getD i4 [])).map λ p => p.1 + p.2 * u), .val (lI (rows0.getD i3 [])), .val (lI (rows0.getD i4 [])), ?_, λ r => ?_⟩
    rotate_left 1
    ·refine q5i (q0P (q5y g1 (q7r g2))) (q0w (q0E (d := lI (rows0.getD i3 [])) (cl := .strong) (q1p (cx := .top) (q2R rfl) (q1U (q1p (q0a rfl) q0f h3) (q0a rfl) (by omega)) x3) rfl) (q0w (q0E (d := lI (rows0.getD i4 [])) (cl := .strong) (q1p (cx := .top) (q2R rfl) (q1U (q1p (q0a rfl) q0f h4) (q0a rfl) (by omega)) x4) rfl) (q0w (q2X (ds := rows0.map lI) (j := i5) (cx := .strong) rfl cz (q1U (q1p (q0a rfl) q0f h5) (q0a rfl) (by omega)) rfl (by rw [m5, List.length_map, R0.1]; exact q3n l5)) rfl))) ?_
     rw [q5O]
     rfl
    ·refine R0.set (by rw [List.length_map, List.length_zip, q3.1, q4.1, Nat.min_self]) λ x hx => ?_
     obtain ⟨p, hp, rfl⟩ := List.mem_map.mp hx
     have b3 : p.1.natAbs <= 2 ^ 70 := R0b i3 l3 _ (List.of_mem_zip hp).1
     have b4 : p.2.natAbs <= 2 ^ 70 := R0b i4 l4 _ (List.of_mem_zip hp).2
     rcases hu2 with z | z <;> rw [z] <;> omega
 obtain ⟨rows2, R2, e2⟩ : ∃ rows2 : List (List Int), RB n rows2 /\ ∀ r : List MS, evSs G (run G k41.T fu (k + 1)) fu (.iff (.and [.cmp .Gt (.var 2) (.int 0), .cmp .Eq (.bin .Mod (.ix (.var 1) (.int 7)) (.int 9)) (.int 0)]) [.seti 6 (.bin .Mod (.ix (.var 1) (.int 8)) (.var 2)) (.bin .Mult (.lst [.int 0]) (.var 2))] [] :: r) (Sq ns xs n f (.own (lI ws)) z (.own (rLs rows1)) z7 z8)
   = evSs G (run G k41.T fu (k + 1)) fu r (Sq ns xs n f (.own (lI ws)) z (.own (rLs rows2)) z7 z8) := by
  have g1 := b_gt (q0a (G := G) (F := run G k41.T fu (k + 1)) (n := 2) (d := .int (n : Int)) (δ := Sq ns xs n f (.own (lI ws)) z (.own (rLs rows1)) z7 z8) rfl) (q0f (i := 0))
  have g2 := b_eq (q1U (q1p (G := G) (F := run G k41.T fu (k + 1)) (δ := Sq ns xs n f (.own (lI ws)) z (.own (rLs rows1)) z7 z8) (q0a (n := 1) rfl) (q0f (i := 7)) h7) (q0f (i := 9)) (by decide)) (q0f (i := 0))
  cases t1 : decide ((0 : Int) < (n : Int)) with
  | false =>
   rw [t1] at g1
   exact ⟨rows1, R1, λ r => q1R (q0P (z3K g1)) rfl⟩
  | true =>
   rw [t1] at g1
   cases t2 : (a7 % 9 == 0) with
   | false =>
    rw [t2] at g2
    exact ⟨rows1, R1, λ r => q1R (q0P (q5y g1 (q7r g2))) rfl⟩
   | true =>
    rw [t2] at g2
    have n0 : 0 < n := by have := of_decide_eq_true t1; omega
    obtain ⟨i8, l8, m8, _⟩ := q2T R1.1 n0 a8
    have ez : evE G (run G k41.T fu (k + 1)) (.bin .Mult (.lst [.int 0]) (.var 2)) (Sq ns xs n f (.own (lI ws)) z (.own (rLs rows1)) z7 z8) = some (.ok (lI (List.replicate n 0)) .fresh) := by
     refine q1Z (op := .Mult) (x := .lst [.int 0]) (y := .int (n : Int)) (cx := .fresh) (cy := .strong) rfl (q0a rfl) ?_
     show (if [DV.int 0].length * (n : Int).toNat <= mostLen /\ -(2 ^ 63) <= (n : Int) /\ (n : Int) < 2 ^ 63 then some (Re.ok (.lst (List.replicate (n : Int).toNat [DV.int 0]).flatten) (Cl.anew .fresh .fresh)) else none) = _
     rw [if_pos ⟨by rw [Int.toNat_natCast]; exact Nat.le_trans (by show 1 * n <= 6; omega) (by decide), by omega, by omega⟩, Int.toNat_natCast]
     have : ∀ m : Nat, (List.replicate m [DV.int 0]).flatten = (List.replicate m (0 : Int)).map DV.int := λ m => by
      induction m with
      | zero => rfl
      | succ m ih => rw [List.replicate_succ, List.flatten_cons, ih]; rfl
     rw [this]
     rfl
    refine ⟨rows1.set i8 (List.replicate n 0), R1.set (by rw [List.length_replicate]) (λ x hx => by rw [List.eq_of_mem_replicate hx]; decide), λ r => ?_⟩
    refine q5i (q0P (q5y g1 (q7r g2))) (q0w (q2X (ds := rows1.map lI) (j := i8) (cx := .strong) rfl ez (q1U (q1p (q0a rfl) q0f h8) (q0a rfl) (by omega)) rfl (by rw [m8, List.length_map, R1.1]; exact q3n l8)) rfl) ?_
    rw [q5O]
    rfl
 refine ⟨n, rows2, n6, R2, ?_⟩
 rw [q1X (fd := q1h) rfl rfl]
 unfold q1h
 have ef : evE G (run G k41.T fu (k + 1)) (.ix (.lst [.int 19, .bin .Add (.bin .Mult (.int 2) (.bin .Pow (.int 10) (.int 20))) (.int 1)]) (.bin .FloorDiv (.bin .Mod (.ix (.var 1) (.int 1)) (.int 3)) (.int 2))) [.val (.scr ns), .val (lI xs), .val (.int (n : Int)), .no, .no, .no, .no, .no, .no] = some (.ok (.int f) .strong) :=
  q1p (x := .lst [.int 19, .int (2 * 10 ^ 20 + 1)]) (cx := .fresh) rfl (q9Z (q1U (q1p (q0a rfl) q0f h1) q0f (by decide)) q0f (by decide)) hf
 refine q3i (q0w (q0E (d := lI xs) (cl := .fresh) (q0W (q0g (q0W (q0g (q0a rfl) (q0g q0f q0C)) rfl c0) (q0g q0f q0C)) rfl st0) rfl) (q0w (q0E (d := .int (n : Int)) (cl := .strong) (by rw [← hn]; exact q1U (q1p (q0a rfl) q0f h0) q0f (by decide)) rfl) (q0w (q0E (d := .int f) (cl := .strong) ef rfl) ?_)))
 refine (eW _).trans (q0w (q4X cm) ((e1 _).trans ((e2 _).trans (q2L ?_))))
 exact q4i (cl := .top) (q2R rfl)
end k41
end
section
set_option exponentiation.threshold 3000
namespace k41
open PySem L2
variable {fu k : Nat} {F : Nat -> List DV -> Option Ou} {δ : List Sv} {ds : List DV} {cl : Cl} {n : Nat} {rows : List (List Int)}
theorem z0W {e : ME} {c : Cl} (h : evE G F e δ = some (.ok (.int (n : Int)) c)) (hn : n <= 100) : evE G F (.bi .lrng [e]) δ = some (.ok (.lst (nD (List.range n))) .fresh) := by
 have q : evE G F (.bi .lrng [e]) δ = Rs.thn (evEs G F [e] δ) (λ l => q9S l) := rfl
 rw [q, q0g h q0C]
 show (if (decide (-(2 ^ 62) <= (n : Int)) && decide ((n : Int) <= mostLen)) = true then some (Re.ok (.lst ((List.range (n : Int).toNat).map λ (i : Nat) => DV.int (0 + i))) Cl.fresh) else none) = _
 have h1 : ((mostLen : Nat) : Int) = 1000000 := rfl
 rw [if_pos (by rw [decide_eq_true (by omega), decide_eq_true (by omega)]; rfl), Int.toNat_natCast]
 unfold nD
 congr 4
 funext i
 rw [Int.zero_add]
noncomputable abbrev Sl (a b c d e f g h i j : Sv) : List Sv := [a, b, c, d, e, f, g, h, i, j]
theorem z1S {a c d e f g h i : Sv} (hn : n <= 6) (R : Sqr n rows) : evE G F (.comp (.comp (.ix (.var 0) (.var 1)) (.one 0) (.var 1) [none, some 0]) (.one 0) (.rng [.var 2]) [none, some 1]) (Sl a (.val (rLs rows)) (.val (.int (n : Int))) c d e f g h i) = some (.ok (rLs (tr n rows)) .fresh) := by
 have inner : ∀ cc : Nat, cc < n -> evE G F (.comp (.ix (.var 0) (.var 1)) (.one 0) (.var 1) [none, some 0]) [.val (.int (cc : Int)), .val (rLs rows)] = some (.ok (lI (rows.map λ r => r.getD cc 0)) .fresh) := λ cc hcc => by
  have := q2O (F := F) (δ := [.val (.int (cc : Int)), .val (rLs rows)]) (l := rows) (h := lI) (f := λ r => .int (r.getD cc 0)) (elt := .ix (.var 0) (.var 1)) (tg := .one 0) (it := .var 1) (fr := [none, some 0]) (cl := .strong) (by rw [q0a (d := rLs rows) rfl]; rfl) (by decide) (few6 (by rw [R.1]; exact hn)) (λ r hr => ⟨[.val (lI r), .val (.int (cc : Int))], .strong, rfl, q1p (cx := .strong) (q0a rfl) (q0a rfl) (at_r (by rw [(R.2 r hr).1]; exact hcc)), rfl⟩)
  rw [this]
  show some (Re.ok (.lst (rows.map λ r => .int (r.getD cc 0))) Cl.fresh) = some (Re.ok (.lst ((rows.map λ r => r.getD cc 0).map DV.int)) Cl.fresh)
  rw [List.map_map]
  rfl
 have cm := q5U (F := F) (δ := Sl a (.val (rLs rows)) (.val (.int (n : Int))) c d e f g h i) (elt := .comp (.ix (.var 0) (.var 1)) (.one 0) (.var 1) [none, some 0]) (tg := .one 0) (it := .rng [.var 2]) (fr := [none, some 1]) (f := λ d => match d with | .int j => lI (rows.map λ r => r.getD j.toNat 0) | d => d) (ds := upTo 0 n) (cl := .fresh)
  (z0h (q0a rfl) (by omega)) (by decide) (by unfold L2.upTo; rw [List.length_map, List.length_range]; exact Nat.le_trans hn (by decide)) (λ d hd => by
   obtain ⟨j, hj, rfl⟩ := q6A hd
   rw [show (0 : Int) + (j : Int) = j by omega]
   refine ⟨[.val (.int (j : Int)), .val (rLs rows)], .fresh, rfl, ?_, rfl⟩
   show _ = some (Re.ok (lI (rows.map λ r => r.getD (j : Int).toNat 0)) .fresh)
   rw [Int.toNat_natCast]
   exact inner j hj)
 have hfl : (upTo 0 n).map (λ d => match d with | .int j => lI (rows.map λ r => r.getD j.toNat 0) | d => d) = (tr n rows).map lI := by
  unfold L2.upTo tr
  rw [List.map_map, List.map_map]
  apply List.map_congr_left
  intro j _
  show lI (rows.map λ r => r.getD ((0 : Int) + (j : Int)).toNat 0) = _
  rw [show ((0 : Int) + (j : Int)).toNat = j by omega]
  rfl
 rw [hfl] at cm
 exact cm
theorem q7s {x0 x1 : Int} (h2 : 2 <= n) (hn : n <= 6) : ∃ i j : Nat, i < n /\ j < n /\ i ≠ j /\ x0 % (n : Int) = (i : Int) /\ ((i : Int) + 1 + x1 % ((n : Int) - 1)) % (n : Int) = (j : Int) := by
 refine ⟨(x0 % (n : Int)).toNat, (((x0 % (n : Int)).toNat + 1 + x1 % ((n : Int) - 1)) % (n : Int)).toNat, ?_⟩
 have hc : n = 2 \/ n = 3 \/ n = 4 \/ n = 5 \/ n = 6 := by omega
 rcases hc with rfl | rfl | rfl | rfl | rfl <;> refine ⟨?_, ?_, ?_, ?_, ?_⟩ <;> omega
theorem q5A {i : Nat} {r : List Int} (R : Sqr n rows) (h1 : r.length = n) (h2 : ∀ x ∈ r, x.natAbs <= Bd) : Sqr n (rows.set i r) := ⟨by rw [List.length_set]; exact R.1, λ q hq => by
 rcases List.mem_or_eq_of_mem_set hq with z | z
 ·exact R.2 q z
 ·rw [z]; exact ⟨h1, h2⟩⟩
theorem z1H : ∀ ns : List Int, ns.length <= 63 -> run G T 100 60 9 [.scr ns] = some (.v (.bl true) false) := by
 intro ns hns
 obtain ⟨n, rows, hn, RB0, sq⟩ := q9W (fu := 100) (k := 57) ns hns
 have R := RB0.sqr
 have du := z3j (fu := 100) hn rows (List.range n) 59 (by rw [R.1]; omega) R.2 (λ c hc => List.mem_range.mp hc) (by rw [List.length_range]; exact hn) (by rw [R.1]; exact hn)
 have edv : dt (rows.map rw1) (List.range n) = dv rows := by unfold dv; rw [R.1]
 rw [edv] at du
 have t1 := q5h (fu := 100) (k := 55) hn (by decide) R rfl
 have R0 : Sqr 0 [] := ⟨rfl, λ r hr => absurd hr (List.not_mem_nil)⟩
 have t0 := q5h (fu := 100) (k := 55) (d := 1) (Nat.zero_le _) (by decide) R0 rfl
 have t2 := q5h (fu := 100) (k := 55) (d := dv rows) hn (by decide) (z4X R) (z6a R).symm
 have ln : ∀ {c d e f g h i j : Sv}, evE G (run G T 100 59) (.bi .len [.var 1]) (Sl (.val (.scr ns)) (.val (rLs rows)) c d e f g h i j) = some (.ok (.int (n : Int)) .strong) := λ {c d e f g h i j} => by
  have := q5s (F := run G T 100 59) (e := .var 1) (ds := rows.map lI) (δ := Sl (.val (.scr ns)) (.val (rLs rows)) c d e f g h i j) (q0a rfl)
  rw [List.length_map, R.1] at this
  exact this
 rw [q1X (fd := q9x) rfl rfl]
 unfold q9x
 refine q3i (q0w (q0E (d := rLs rows) (cl := .fresh) (q0W (q0g (q0a rfl) q0C) rfl sq) rfl) (q0w (q0E (d := .int (n : Int)) (cl := .strong) ln rfl) (q0w (q0E (d := .int (dv rows)) (cl := .strong) (q0W (q0g (q0a rfl) (q0g (z0W (q0a rfl) (by omega)) q0C)) rfl du) rfl)
  (q1R (q0P (x := false) (cl := .strong) (z1u (q8s (x := true) (q0W (q0g (q0a rfl) (q0g (q0a rfl) q0C)) rfl t1)) (q8s (x := true) (q0W (l := [(rLs [], .fresh), (.int 1, .strong)]) rfl rfl t0))))
  (q1R (q0P (x := false) (cl := .strong) (q8s (x := true) (q0W (q0g (z1S hn R) (q0g (q0a rfl) q0C)) rfl t2))) ?_)))))
 have g1 := b_lt (q0a (G := G) (F := run G T 100 59) (n := 2) (d := .int (n : Int)) (δ := Sl (.val (.scr ns)) (.val (rLs rows)) (.val (.int (n : Int))) (.val (.int (dv rows))) .no .no .no .no .no .no) rfl) (q0f (i := 2))
 by_cases h2 : n < 2
 ·rw [decide_eq_true (show (n : Int) < 2 by omega)] at g1
  exact q8j (q0P g1) (q2L rfl)
 ·rw [decide_eq_false (show ¬ (n : Int) < 2 by omega)] at g1
  obtain ⟨v1, c1⟩ := z0t (fu := 100) (k := 58) ns 1
  obtain ⟨xs, hx, st⟩ := q5Y (fu := 100) (k := 58) v1 3 (by decide)
  obtain ⟨x0, h0⟩ := q6y (l := xs) (i := 0) (by omega) (by omega)
  obtain ⟨x1, h1⟩ := q6y (l := xs) (i := 1) (by omega) (by omega)
  obtain ⟨x2, h2'⟩ := q6y (l := xs) (i := 2) (by omega) (by omega)
  obtain ⟨i, j, hi, hj, hij, ei, ej⟩ := q7s (x0 := x0) (x1 := x1) (by omega : 2 <= n) hn
  obtain ⟨t, ht, htb⟩ : ∃ t : Int, x2 % 11 - 5 = t /\ t.natAbs <= 5 := ⟨_, rfl, by omega⟩
  have ri : ixD (rLs rows) (.int (i : Int)) = some (lI (rows.getD i [])) := by
   obtain ⟨i', _, e1, e2⟩ := q2T R.1 (by omega) (i : Int)
   rw [Int.emod_eq_of_lt (by omega) (by omega)] at e1 e2
   rw [e2, show i' = i by omega]
  have rj : ixD (rLs rows) (.int (j : Int)) = some (lI (rows.getD j [])) := by
   obtain ⟨i', _, e1, e2⟩ := q2T R.1 (by omega) (j : Int)
   rw [Int.emod_eq_of_lt (by omega) (by omega)] at e1 e2
   rw [e2, show i' = j by omega]
  have gi := q2Q RB0 hi
  have gj := q2Q RB0 hj
  have mem : ∀ {q : Nat}, q < n -> (rows.getD q []).length = n /\ ∀ x ∈ rows.getD q [], x.natAbs <= Bd := λ hq => ⟨(q2Q RB0 hq).1, λ x hx => Nat.le_trans ((q2Q RB0 hq).2 x hx) (by decide)⟩
  have S1 : Sqr n ((rows.set i (rows.getD j [])).set j (rows.getD i [])) := q5A (q5A R (mem hj).1 (mem hj).2) (mem hi).1 (mem hi).2
  have S2 : Sqr n (rows.set i ((rows.getD i []).map λ x => t * x)) := q5A R (by rw [List.length_map]; exact gi.1) λ x hx => by
   obtain ⟨y, hy, rfl⟩ := List.mem_map.mp hx
   rw [Int.natAbs_mul]
   exact Nat.le_trans (Nat.mul_le_mul htb (gi.2 y hy)) (by decide)
  have d1 : (0 : Int) - dv rows = dv ((rows.set i (rows.getD j [])).set j (rows.getD i [])) := by rw [z1W (by rw [R.1]; exact hi) (by rw [R.1]; exact hj) hij]; omega
  have d2 : t * dv rows = dv (rows.set i ((rows.getD i []).map λ x => t * x)) := by rw [z0l (by rw [R.1]; exact hi)]
  have u1 := q5h (fu := 100) (k := 55) hn (by decide) S1 d1
  have u2 := q5h (fu := 100) (k := 55) hn (by decide) S2 d2
  have tm : ∀ y : Int, q2i t y = true := λ y => by
   unfold q2i
   rw [decide_eq_true (show -(2 ^ 64) < t by omega), decide_eq_true (show t < 2 ^ 64 by omega)]
   rfl
  have cz : ∀ {a b : Sv}, evE G (run G T 100 59) (.comp (.bin .Mult (.var 1) (.var 0)) (.one 0) (.ix (.var 1) (.var 5)) [none, some 8]) (Sl (.val (.scr ns)) (.val (rLs rows)) (.val (.int (n : Int))) (.val (.int (dv rows))) (.val (lI xs)) (.val (.int (i : Int))) a b (.val (.int t)) (.own (rLs rows))) = some (.ok (lI ((rows.getD i []).map λ x => t * x)) .fresh) := λ {a b} => by
   have w : q0N (evE G (run G T 100 59) (.ix (.var 1) (.var 5)) (Sl (.val (.scr ns)) (.val (rLs rows)) (.val (.int (n : Int))) (.val (.int (dv rows))) (.val (lI xs)) (.val (.int (i : Int))) a b (.val (.int t)) (.own (rLs rows)))) = some (.ok ((rows.getD i []).map DV.int) .strong) := by
    rw [q1p (cx := .strong) (q0a rfl) (q0a rfl) ri]
    rfl
   have := q2O (F := run G T 100 59) (l := rows.getD i []) (h := DV.int) (f := λ x => .int (t * x)) (elt := .bin .Mult (.var 1) (.var 0)) (tg := .one 0) (fr := [none, some 8]) w (by decide) (few6 (by rw [gi.1]; exact hn)) (λ x _ => ⟨[.val (.int x), .val (.int t)], .strong, rfl, q3s (q0a rfl) (q0a rfl) (tm x), rfl⟩)
   rw [this]
   show some (Re.ok (.lst ((rows.getD i []).map λ x => .int (t * x))) Cl.fresh) = some (Re.ok (.lst (((rows.getD i []).map λ x => t * x).map DV.int)) Cl.fresh)
   rw [List.map_map]
   rfl
  refine q1R (q0P g1) (q0w (q0E (d := lI xs) (cl := .fresh) (q0W (q0g (q0W (q0g (q0a rfl) (q0g q0f q0C)) rfl c1) (q0g q0f q0C)) rfl st) rfl) (q0w (q0E (d := .int (i : Int)) (cl := .strong) (by rw [← ei]; exact q1U (q1p (q0a rfl) q0f h0) (q0a rfl) (by omega)) rfl) (q0w (q0E (d := .int (j : Int)) (cl := .strong) (by rw [← ej]; exact q1U (q3e (q3e (q0a rfl) q0f) (q1U (q1p (q0a rfl) q0f h1) (q5j (q0a rfl) q0f) (by omega))) (q0a rfl) (by omega)) rfl)
   (q0w (q4X (q5H (c := .strong) (q0a rfl))) (q0w (q2X (ds := rows.map lI) (j := i) (d := lI (rows.getD j [])) (cl := .strong) (cx := .strong) rfl (q1p (cx := .strong) (q0a rfl) (q0a rfl) rj) (q0a rfl) rfl (by rw [List.length_map, R.1]; exact q3n hi)) (q0w (q2X (ds := (rows.map lI).set i (lI (rows.getD j []))) (j := j) (d := lI (rows.getD i [])) (cl := .strong) (cx := .strong) rfl (q1p (cx := .strong) (q0a rfl) (q0a rfl) ri) (q0a rfl) rfl (by rw [List.length_set, List.length_map, R.1]; exact q3n hj))
   (q0w (q0E (d := .int t) (cl := .strong) (by rw [← ht]; exact q5j (q1U (q1p (q0a rfl) q0f h2') q0f (by decide)) q0f) rfl) (q0w (q4X (q5H (c := .strong) (q0a rfl))) (q0w (q2X (ds := rows.map lI) (j := i) (cx := .strong) rfl cz (q0a rfl) rfl (by rw [List.length_map, R.1]; exact q3n hi)) (q2L ?_))))))))))
  have e1 : rLs ((rows.set i (rows.getD j [])).set j (rows.getD i [])) = .lst (((rows.map lI).set i (lI (rows.getD j []))).set j (lI (rows.getD i []))) := by
   show DV.lst (((rows.set i (rows.getD j [])).set j (rows.getD i [])).map lI) = _
   rw [List.map_set, List.map_set]
  rw [e1] at u1
  rw [q5O] at u2
  exact q4i (cl := .weak) (q5y (q6p (q0g (q2R rfl) (q0g (q5j q0f (q0a rfl)) q0C)) rfl u1) (q7r (q6p (q0g (q2R rfl) (q0g (q3s (q0a rfl) (q0a rfl) (tm _)) q0C)) rfl u2)))
end k41
end
section
namespace k41
open PySem L2 PySem.Spec PyProof.Rows
noncomputable def top (i : Nat) : Stmt := PySem.Challenge.pw_talkleast_k41_determinants.main.body.getD i (.Pass ⟨0, 0, 0, 0⟩)
theorem lnS {α : Type} {us : List α} {n : Nat} (h : us.length = n + 1) : ∃ a r, us = a :: r /\ r.length = n := by cases us with | nil => cases h | cons a r => exact ⟨a, r, rfl, Nat.succ.inj h⟩
theorem fmc {α : Type} {p : α -> Prop} {a : α} {l : List α} (h : p a) (r : ∀ x ∈ l, p x) : ∀ x ∈ a :: l, p x := List.forall_mem_cons.mpr ⟨h, r⟩
theorem ln0 {α : Type} {us : List α} (h : us.length = 0) : us = [] := List.length_eq_zero_iff.mp h
theorem ln1 {α : Type} {us : List α} (h : us.length = 1) : ∃ a0, us = [a0] := by obtain ⟨_, _, rfl, h0⟩ := lnS h; obtain rfl := ln0 h0; exact ⟨_, rfl⟩
theorem ln2 {α : Type} {us : List α} (h : us.length = 2) : ∃ a0 a1, us = [a0, a1] := by obtain ⟨_, _, rfl, h0⟩ := lnS h; obtain ⟨_, _, rfl, h1⟩ := lnS h0; obtain rfl := ln0 h1; exact ⟨_, _, rfl⟩
noncomputable def fn : List Str := ["determinant", "with_row", "turn", "_law_int", "_law_cell_at", "_law_stream", "_law_square", "_law_due", "_law_told", "law"]
noncomputable def bl : List Str := ["len", "enumerate", "isinstance", "int", "bool", "range", "min", "zip", "list"]
noncomputable def cl : List Str := []
theorem ok0 : okD fn bl cl q1g ["square", "sums", "row"] ["square"] (top 1) = true := by decide +kernel
theorem ok1 : okD fn bl cl q2e ["sums", "row", "found", "columns", "total", "column", "number", "wider"] ["sums", "row"] (top 2) = true := by decide +kernel
theorem ok2 : okD fn bl cl q6F ["columns", "column", "sign", "greater"] ["columns", "column"] (top 3) = true := by decide +kernel
theorem ok3 : okD fn bl cl q2f ["_law_found"] ["_law_found"] (top 5) = true := by decide +kernel
theorem ok4 : okD fn bl cl q1c ["_law_script", "_law_k"] ["_law_script", "_law_k"] (top 6) = true := by decide +kernel
theorem ok5 : okD fn bl cl q1i ["_law_cell", "_law_many", "_law_found", "_law_number", "_law_k"] ["_law_cell", "_law_many"] (top 7) = true := by decide +kernel
theorem ok6 : okD fn bl cl q1h ["_law_script", "_law_xs", "_law_many", "_law_far", "_law_words", "_law_k", "_law_rows", "_law_one", "_law_other"] ["_law_script"] (top 8) = true := by decide +kernel
theorem ok7 : okD fn bl cl q1k ["_law_rows", "_law_columns", "_law_found", "_law_sign", "_law_k"] ["_law_rows", "_law_columns"] (top 9) = true := by decide +kernel
theorem ok8 : okD fn bl cl q1Q ["_law_rows", "_law_due_here", "_law_handed", "_law_found"] ["_law_rows", "_law_due_here"] (top 10) = true := by decide +kernel
theorem ok9 : okD fn bl cl q9x ["_law_script", "_law_rows", "_law_many", "_law_due_here", "_law_xs", "_law_one", "_law_other", "_law_turned_rows", "_law_times", "_law_more"] ["_law_script"] (top 11) = true := by decide +kernel
open PySem.W
theorem all_mk {l : OpenLaw} {w : World} {K : Frag} {h : Heap} {mg : Str -> Option Value} {fa f0 f1 f2 f3 f4 f5 f6 f7 f8 f9 : Addr} (X : K.In h) (Ns : h.Ns mainGlobals mg) (hfa : mg "law" = some (.ref fa))
  {od0 an0 od1 an1 od2 an2 od3 an3 od4 an4 od5 an5 od6 an6 od7 an7 od8 an8 od9 an9 : Option Addr} {sl0 sl1 sl2 sl3 sl4 sl5 sl6 sl7 sl8 sl9 : Array (Option Value)} {oc0 kV0 dc0 pm0 cd0 ct0 oc1 kV1 dc1 pm1 cd1 ct1 oc2 kV2 dc2 pm2 cd2 ct2 oc3 kV3 dc3 pm3 cd3 ct3 oc4 kV4 dc4 pm4 cd4 ct4 oc5 kV5 dc5 pm5 cd5 ct5 oc6 kV6 dc6 pm6 cd6 ct6 oc7 kV7 dc7 pm7 cd7 ct7 oc8 kV8 dc8 pm8 cd8 ct8 oc9 kV9 dc9 pm9 cd9 ct9 : Value}
  (a0 : nsIn K mainGlobals "determinant" = some (some (.ref f0))) (l0 : K.lookup f0 = some ⟨oc0, od0, .func (fnOf "determinant" "determinant" (q0v (top 1)) (q0p (top 1)) (q0c (top 1)) .none kV0 dc0 pm0 an0 cd0 ct0), sl0⟩) (c0 : codeIn K cd0 "determinant" = true) (k0 : keepIn K (.ref f0) = true)
  (a1 : nsIn K mainGlobals "with_row" = some (some (.ref f1))) (l1 : K.lookup f1 = some ⟨oc1, od1, .func (fnOf "with_row" "with_row" (q0v (top 2)) (q0p (top 2)) (q0c (top 2)) .none kV1 dc1 pm1 an1 cd1 ct1), sl1⟩) (c1 : codeIn K cd1 "with_row" = true) (k1 : keepIn K (.ref f1) = true)
  (a2 : nsIn K mainGlobals "turn" = some (some (.ref f2))) (l2 : K.lookup f2 = some ⟨oc2, od2, .func (fnOf "turn" "turn" (q0v (top 3)) (q0p (top 3)) (q0c (top 3)) .none kV2 dc2 pm2 an2 cd2 ct2), sl2⟩) (c2 : codeIn K cd2 "turn" = true) (k2 : keepIn K (.ref f2) = true)
  (a3 : nsIn K mainGlobals "_law_int" = some (some (.ref f3))) (l3 : K.lookup f3 = some ⟨oc3, od3, .func (fnOf "_law_int" "_law_int" (q0v (top 5)) (q0p (top 5)) (q0c (top 5)) .none kV3 dc3 pm3 an3 cd3 ct3), sl3⟩) (c3 : codeIn K cd3 "_law_int" = true) (k3 : keepIn K (.ref f3) = true)
  (a4 : nsIn K mainGlobals "_law_cell_at" = some (some (.ref f4))) (l4 : K.lookup f4 = some ⟨oc4, od4, .func (fnOf "_law_cell_at" "_law_cell_at" (q0v (top 6)) (q0p (top 6)) (q0c (top 6)) .none kV4 dc4 pm4 an4 cd4 ct4), sl4⟩) (c4 : codeIn K cd4 "_law_cell_at" = true) (k4 : keepIn K (.ref f4) = true)
  (a5 : nsIn K mainGlobals "_law_stream" = some (some (.ref f5))) (l5 : K.lookup f5 = some ⟨oc5, od5, .func (fnOf "_law_stream" "_law_stream" (q0v (top 7)) (q0p (top 7)) (q0c (top 7)) .none kV5 dc5 pm5 an5 cd5 ct5), sl5⟩) (c5 : codeIn K cd5 "_law_stream" = true) (k5 : keepIn K (.ref f5) = true)
  (a6 : nsIn K mainGlobals "_law_square" = some (some (.ref f6))) (l6 : K.lookup f6 = some ⟨oc6, od6, .func (fnOf "_law_square" "_law_square" (q0v (top 8)) (q0p (top 8)) (q0c (top 8)) .none kV6 dc6 pm6 an6 cd6 ct6), sl6⟩) (c6 : codeIn K cd6 "_law_square" = true) (k6 : keepIn K (.ref f6) = true)
  (a7 : nsIn K mainGlobals "_law_due" = some (some (.ref f7))) (l7 : K.lookup f7 = some ⟨oc7, od7, .func (fnOf "_law_due" "_law_due" (q0v (top 9)) (q0p (top 9)) (q0c (top 9)) .none kV7 dc7 pm7 an7 cd7 ct7), sl7⟩) (c7 : codeIn K cd7 "_law_due" = true) (k7 : keepIn K (.ref f7) = true)
  (a8 : nsIn K mainGlobals "_law_told" = some (some (.ref f8))) (l8 : K.lookup f8 = some ⟨oc8, od8, .func (fnOf "_law_told" "_law_told" (q0v (top 10)) (q0p (top 10)) (q0c (top 10)) .none kV8 dc8 pm8 an8 cd8 ct8), sl8⟩) (c8 : codeIn K cd8 "_law_told" = true) (k8 : keepIn K (.ref f8) = true)
  (a9 : nsIn K mainGlobals "law" = some (some (.ref f9))) (l9 : K.lookup f9 = some ⟨oc9, od9, .func (fnOf "law" "law" (q0v (top 11)) (q0p (top 11)) (q0c (top 11)) .none kV9 dc9 pm9 an9 cd9 ct9), sl9⟩) (c9 : codeIn K cd9 "law" = true) (k9 : keepIn K (.ref f9) = true)
  (z0 : nsIn K mainGlobals "len" = some none)
  (z1 : nsIn K mainGlobals "enumerate" = some none)
  (z2 : nsIn K mainGlobals "isinstance" = some none)
  (z3 : nsIn K mainGlobals "int" = some none)
  (z4 : nsIn K mainGlobals "bool" = some none)
  (z5 : nsIn K mainGlobals "range" = some none)
  (z6 : nsIn K mainGlobals "min" = some none)
  (z7 : nsIn K mainGlobals "zip" = some none)
  (z8 : nsIn K mainGlobals "list" = some none)
  : ∃ fd : FuncData, (∀ (s : Shared) (v : Value), BindsTo s fd ⟨[v], []⟩ [("_law_script", v)]) /\ ∀ base : Heap, K.In base -> base.Ns mainGlobals mg -> FnOk l.prog w K mg base CX0 60 fa fd ["_law_script"] (spS K) := by
 have e := hfa.symm.trans (mg_of X Ns a9)
 cases e
 have S0 := q0S X Ns ok0 a0 l0 c0 k0 λ _ _ _ _ _ _ us hl => by obtain ⟨_, rfl⟩ := ln1 hl; rfl
 have S1 := q0S X Ns ok1 a1 l1 c1 k1 λ _ _ _ _ _ _ us hl => by obtain ⟨_, _, rfl⟩ := ln2 hl; rfl
 have S2 := q0S X Ns ok2 a2 l2 c2 k2 λ _ _ _ _ _ _ us hl => by obtain ⟨_, _, rfl⟩ := ln2 hl; rfl
 have S3 := q0S X Ns ok3 a3 l3 c3 k3 λ _ _ _ _ _ _ us hl => by obtain ⟨_, rfl⟩ := ln1 hl; rfl
 have S4 := q0S X Ns ok4 a4 l4 c4 k4 λ _ _ _ _ _ _ us hl => by obtain ⟨_, _, rfl⟩ := ln2 hl; rfl
 have S5 := q0S X Ns ok5 a5 l5 c5 k5 λ _ _ _ _ _ _ us hl => by obtain ⟨_, _, rfl⟩ := ln2 hl; rfl
 have S6 := q0S X Ns ok6 a6 l6 c6 k6 λ _ _ _ _ _ _ us hl => by obtain ⟨_, rfl⟩ := ln1 hl; rfl
 have S7 := q0S X Ns ok7 a7 l7 c7 k7 λ _ _ _ _ _ _ us hl => by obtain ⟨_, _, rfl⟩ := ln2 hl; rfl
 have S8 := q0S X Ns ok8 a8 l8 c8 k8 λ _ _ _ _ _ _ us hl => by obtain ⟨_, _, rfl⟩ := ln2 hl; rfl
 have S9 := q0S X Ns ok9 a9 l9 c9 k9 λ _ _ _ _ _ _ us hl => by obtain ⟨_, rfl⟩ := ln1 hl; rfl
 refine ⟨_, λ s v => .of_eq rfl, λ base _ _ => q9t (T := T) (G := G) (fu := 100) rfl (q1v S0 (q1v S1 (q1v S2 (q1v S3 (q1v S4 (q1v S5 (q1v S6 (q1v S7 (q1v S8 (q1v S9 z4p)))))))))) ?_ ?_ ?_ ?_ z1y z0e (i := 9) rfl rfl S9 z1H⟩
 ·exact fmc (mg_none_of X Ns z0) (fmc (mg_none_of X Ns z1) (fmc (mg_none_of X Ns z2) (fmc (mg_none_of X Ns z3) (fmc (mg_none_of X Ns z4) (fmc (mg_none_of X Ns z5) (fmc (mg_none_of X Ns z6) (fmc (mg_none_of X Ns z7) (fmc (mg_none_of X Ns z8) (by intro x hx; cases hx)))))))))
 ·exact ⟨z1U, z2v⟩
 ·intro x d h
  exact z1F x d h
 ·intro x kvs h
  exact z1p x kvs h
end k41
open PySem PySem.W PyProof.Rows
set_option maxRecDepth 100000 in
set_option maxHeartbeats 0 in
theorem PySem.Challenge.cw_talkleast_k41_determinants_holds : PySem.Challenge.rw_talkleast_k41_determinants.Holds := by
 w_on; o_law; k_head; (case hw => w_witness2)
 k_fill
 refine L2.walkE (l := PySem.Challenge.rw_talkleast_k41_determinants) (k := 60) (p := "_law_script") rfl rfl ⟨rfl, by decide, by decide⟩ (λ w h Y => PySem.W.kIn_of Y) ?F
 case F =>
  intro w mg fa h KX G hmg
  refine' k41.all_mk KX G hmg ?a0 ?l0 ?c0 ?k0 ?a1 ?l1 ?c1 ?k1 ?a2 ?l2 ?c2 ?k2 ?a3 ?l3 ?c3 ?k3 ?a4 ?l4 ?c4 ?k4 ?a5 ?l5 ?c5 ?k5 ?a6 ?l6 ?c6 ?k6 ?a7 ?l7 ?c7 ?k7 ?a8 ?l8 ?c8 ?k8 ?a9 ?l9 ?c9 ?k9 ?z0 ?z1 ?z2 ?z3 ?z4 ?z5 ?z6 ?z7 ?z8
  (case a0 => k_is); (case l0 => k_is); (case c0 => k_is); (case k0 => k_is)
  (case a1 => k_is); (case l1 => k_is); (case c1 => k_is); (case k1 => k_is)
  (case a2 => k_is); (case l2 => k_is); (case c2 => k_is); (case k2 => k_is)
  (case a3 => k_is); (case l3 => k_is); (case c3 => k_is); (case k3 => k_is)
  (case a4 => k_is); (case l4 => k_is); (case c4 => k_is); (case k4 => k_is)
  (case a5 => k_is); (case l5 => k_is); (case c5 => k_is); (case k5 => k_is)
  (case a6 => k_is); (case l6 => k_is); (case c6 => k_is); (case k6 => k_is)
  (case a7 => k_is); (case l7 => k_is); (case c7 => k_is); (case k7 => k_is)
  (case a8 => k_is); (case l8 => k_is); (case c8 => k_is); (case k8 => k_is)
  (case a9 => k_is); (case l9 => k_is); (case c9 => k_is); (case k9 => k_is)
  (case z0 => k_is)
  (case z1 => k_is)
  (case z2 => k_is)
  (case z3 => k_is)
  (case z4 => k_is)
  (case z5 => k_is)
  (case z6 => k_is)
  (case z7 => k_is)
  (case z8 => k_is)
end

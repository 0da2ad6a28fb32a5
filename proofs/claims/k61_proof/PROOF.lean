import PyProof.Rows.All
import Wide.All
import OpenK.AllK
import Wide.FinOn
import Lean
import PyProof.EqAt
import PyProof.EqKinds
import PyProof.TupleCall
import PyProof.ExcAttrAll.ValueError
import PyProof.ZipIter
import PyProof.TupleIter
import PyProof.P3In
import PyProof.Rows.SeqMore2
import PyProof.FactsAll.tuple_3
import PyProof.FactsAll.list_3
import PyProof.Rows.Range3
import KE.KRevIter
import PyProof.Rows.FactsT2
import PySem.Builtin.Int.W1All
import PyProof.SetScanFacts
import PyProof.SetKind
import PyProof.DictKinds
import PyProof.DictStraight
import PyProof.Rows.SetFrom
import PyProof.CollectWalk
import PyProof.Seq
import PyProof.DictIter
import PyProof.Rows.Tup
import PyProof.FactsAll.set_1
import PyProof.FactsAll.set_2
import PyProof.Rows.SortWalk
import PyProof.ConsumeWalk
import PyProof.Rows.SumAny
import PySem.Syntax
import PySem.Eval
import PyProof.DictTable
import PyProof.ListRange
import PyProof.EnumMake
import PySem.Challenge.RW_talkleast_k61_right_shares
set_option Elab.async false
set_option linter.all false
set_option bootstrap.genMatcherCode false
set_option genSizeOfSpec false
set_option compiler.extract_closed false
set_option maxRecDepth 100000
set_option maxHeartbeats 4000000
section
namespace L2
open PySem PySem.Spec PyProof.Rows
noncomputable abbrev Key := Sum Int Str
noncomputable def z4B : Key -> Value -> Bool
 | .inl k, v => Value.isInt k v
 | .inr x, v => Value.isStrOf x v
noncomputable def keyH (w : World) : Key -> Int
 | .inl k => hashInt k
 | .inr x => hashStr w x
theorem q0M : ∀ {k : Key} {v : Value}, z4B k v = true -> (∃ i t, k = Sum.inl i /\ v = Value.int i t) \/ (∃ x t, k = Sum.inr x /\ v = Value.str x t)
 | .inl i, v, h => by
  obtain ⟨t, e⟩ := Value.isInt_shape (k := i) (v := v) h
  exact .inl ⟨i, t, rfl, e⟩
 | .inr x, v, h => by
  obtain ⟨t, e⟩ := Value.isStrOf_shape (x := x) (v := v) h
  exact .inr ⟨x, t, rfl, e⟩
theorem z3F (a b : Int) : decide ((Sum.inl a : Key) = Sum.inl b) = (a == b) := by
 by_cases e : a = b
 ·subst e; simp
 ·have h : ¬ (Sum.inl a : Key) = Sum.inl b := λ q => e (Sum.inl.inj q)
  rw [decide_eq_false h]
  exact (beq_eq_false_iff_ne.mpr e).symm
theorem z4o (a b : Str) : decide ((Sum.inr a : Key) = Sum.inr b) = decide (a = b) := by
 by_cases e : a = b
 ·subst e; simp
 ·have h : ¬ (Sum.inr a : Key) = Sum.inr b := λ q => e (Sum.inr.inj q)
  rw [decide_eq_false h, decide_eq_false e]
theorem z3s (a : Int) (b : Str) : decide ((Sum.inl a : Key) = Sum.inr b) = false := decide_eq_false (λ q => nomatch q)
theorem z3m (a : Str) (b : Int) : decide ((Sum.inr a : Key) = Sum.inl b) = false := decide_eq_false (λ q => nomatch q)
noncomputable def q6q (prog : Program) (w : World) : PySem.KeyKind prog w Key where
 is := z4B
 hash := keyH w
 inj := λ v a b ha hb => by
  rcases q0M ha with ⟨i, t, rfl, rfl⟩ | ⟨x, t, rfl, rfl⟩
  ·rcases q0M hb with ⟨j, u, rfl, e⟩ | ⟨y, u, rfl, e⟩
   ·injection e with e1 _; rw [e1]
   ·exact nomatch e
  ·rcases q0M hb with ⟨j, u, rfl, e⟩ | ⟨y, u, rfl, e⟩
   ·exact nomatch e
   ·injection e with e1 _; rw [e1]
 byValue := λ k v h => by
  rcases q0M h with ⟨i, t, rfl, rfl⟩ | ⟨x, t, rfl, rfl⟩ <;> rfl
 pyHash := λ hv h => by
  rcases q0M hv with ⟨i, t, rfl, rfl⟩ | ⟨x, t, rfl, rfl⟩
  ·exact wpAny_pyHash_int h
  ·exact wpAny_pyHash_str h
 eqBool := λ hu hv h => by
  rcases q0M hu with ⟨i, t, rfl, rfl⟩ | ⟨x, t, rfl, rfl⟩
  ·rcases q0M hv with ⟨j, u, rfl, rfl⟩ | ⟨y, u, rfl, rfl⟩
   ·rw [z3F] at h; exact wpAny_eqBool_int h
   ·rw [z3s] at h; exact SeqAt.EqAt.int_str i t y u _ _ _ _ h
  ·rcases q0M hv with ⟨j, u, rfl, rfl⟩ | ⟨y, u, rfl, rfl⟩
   ·rw [z3m] at h; exact SeqAt.EqAt.str_int x t j u _ _ _ _ h
   ·rw [z4o] at h; exact wpAny_eqBool_str h
 «strs» := λ k x t v h => by
  rcases q0M h with ⟨i, u, rfl, e⟩ | ⟨y, u, rfl, e⟩
  ·exact nomatch e
  ·injection e with e1 _
   subst e1
   cases v <;> rfl
end L2
namespace L2
open PySem PySem.Spec PyProof.Rows
inductive V where
 | non | bl (b : Bool) | int (i : Int) | str (x : Str) | byt (b : Array UInt8) | flt (b : UInt64) | ref (a : Addr) | ty (n : String)
 deriving DecidableEq
noncomputable def RelV : V -> Value -> Prop
 | .non, u => u = Value.none
 | .bl b, u => u = Value.bool b
 | .int i, u => ∃ t, u = Value.int i t
 | .str x, u => ∃ t, u = Value.str x t
 | .byt b, u => ∃ t, u = Value.bytes b t
 | .flt b, u => ∃ t, u = Value.float b t
 | .ref a, u => u = Value.ref a
 | .ty n, u => u = Value.type n
noncomputable abbrev Vals : List V -> List Value -> Prop := Paired RelV
theorem Vals.length {xs : List V} {us : List Value} (r : Vals xs us) : xs.length = us.length := Paired.length r
theorem Vals.get : ∀ {xs : List V} {us : List Value} {i : Nat} {x : V}, Vals xs us -> xs[i]? = some x -> ∃ u, us[i]? = some u /\ RelV x u
 | _, _, _, _, .nil, e => by simp at e
 | _, _, 0, _, .cons r _, e => by simp at e; subst e; exact ⟨_, rfl, r⟩
 | _, _, i + 1, x, .cons _ t, e => by
  obtain ⟨u, h1, h2⟩ := Vals.get (i := i) (x := x) t (by simpa using e)
  exact ⟨u, by simpa using h1, h2⟩
theorem Vals.set {x : V} {u : Value} (r : RelV x u) : ∀ {xs : List V} {us : List Value} (i : Nat), Vals xs us -> Vals (xs.set i x) (us.set i u)
 | _, _, _, .nil => .nil
 | _, _, 0, .cons _ t => .cons r t
 | _, _, i + 1, .cons q t => .cons q (Vals.set r i t)
theorem Vals.append : ∀ {xs ys : List V} {us ws : List Value}, Vals xs us -> Vals ys ws -> Vals (xs ++ ys) (us ++ ws)
 | _, _, _, _, .nil, s => s
 | _, _, _, _, .cons r t, s => .cons r (Vals.append t s)
theorem Vals.take : ∀ {xs : List V} {us : List Value} (n : Nat), Vals xs us -> Vals (xs.take n) (us.take n)
 | _, _, 0, _ => .nil
 | _, _, _ + 1, .nil => .nil
 | _, _, n + 1, .cons r t => .cons r (Vals.take n t)
theorem Vals.drop : ∀ {xs : List V} {us : List Value} (n : Nat), Vals xs us -> Vals (xs.drop n) (us.drop n)
 | _, _, 0, r => r
 | _, _, _ + 1, .nil => .nil
 | _, _, n + 1, .cons _ t => Vals.drop n t
noncomputable def RelO : Option V -> Option Value -> Prop
 | some v, some u => RelV v u
 | none, none => True
 | _, _ => False
noncomputable def KV {κ : Type} : List (κ × V) -> List (κ × Value) -> Prop := Paired λ (p : κ × V) (q : κ × Value) => p.1 = q.1 /\ RelV p.2 q.2
noncomputable def kV : Key -> V
 | .inl i => .int i
 | .inr x => .str x
inductive HO where
 | lst (xs : List V)
 | tup (xs : List V)
 | dK (kvs : List (Key × V)) | dT (kvs : List (List Key × V))
 | set (S : Int -> Bool) (n : Nat)
 | ins (C dx : Addr) (fs : List (Str × V))
 | own (x : Addr)
 | xd (fs : List (Str × V))
 | met (f x : Addr)
 | rng (lo hi : Int)
 | frz (o : Obj) (u : HO)
 | tbl (ps : Array Value)
 | ext (φ : Heap -> Prop)
noncomputable abbrev Hp := Addr -> Option HO
noncomputable def upd (H : Hp) (a : Addr) (o : HO) : Hp := λ b => if b = a then some o else H b
theorem q0V {H : Hp} {a : Addr} {o : HO} : upd H a o a = some o := by unfold upd; rw [if_pos rfl]
theorem q0w {H : Hp} {a b : Addr} {o : HO} (h : b ≠ a) : upd H a o b = H b := by unfold upd; rw [if_neg h]
theorem q0t {H : Hp} {a b : Addr} {o : HO} (h : H a = some o) (h' : H b = none) : a ≠ b := by
 intro e; subst e; rw [h] at h'; cases h'
noncomputable def q2D (h : Heap) (a : Addr) (items : Array Value) : Prop := ∃ o, h.get? a = some o /\ (o.cls = .type "tuple" /\ o.dict = none) /\ ∃ n, o.data = .seq items n
theorem q2D.tup {h : Heap} {a items} (x : q2D h a items) : IsTup h a items := let ⟨o, ho, hc, r⟩ := x; ⟨o, ho, hc.1, r⟩
theorem q2D.lt {h : Heap} {a items} (x : q2D h a items) : a < h.objs.size := let ⟨_, ho, _⟩ := x; Heap.lt_size ho
theorem q2D.new (h : Heap) (items : Array Value) : q2D (h.push { cls := .type "tuple", data := .seq items }) h.objs.size items := ⟨_, Heap.get?_push_size _ rfl, ⟨rfl, rfl⟩, _, rfl⟩
section
variable (P : Program) (w : World)
noncomputable def q1K (H : Hp) (h : Heap) (a : Addr) : HO -> Prop
 | .lst xs => xs.length <= sizeLine /\ ∃ (its : List Value) (n : Nat), Vals xs its /\ h.get? a = some { cls := .type "list", data := .seq its.toArray n }
 | .tup xs => xs.length <= sizeLine /\ ∃ its : List Value, Vals xs its /\ q2D h a its.toArray
 | .dK kvs => kvs.length <= sizeLine /\ (a == sysModules) = false /\ ∃ vs, KV kvs vs /\ h.DictOf (q6q P w) a vs
 | .dT kvs => kvs.length <= sizeLine /\ (a == sysModules) = false /\ ∃ xs : List (List Key × Addr × Value),
   Paired (λ (p : List Key × V) (q : List Key × Addr × Value) => p.1 = q.1 /\ H q.2.1 = some (.tup (p.1.map kV)) /\ RelV p.2 q.2.2) kvs xs /\
   ∃ o es ep, h.get? a = some o /\ o.ExactDict /\ o.data = .dict es ep /\ es.toList = xs.map (entryOfKey (tupleKind (q6q P w))) /\ (xs.map (·.1)).Nodup
 | .set S n => h.SetOf (intKind P w) a S n
 | .ins C dx fs => H dx = some (.own a) /\ fs.length <= 1000 /\ dx ≠ a /\ h.get? a = some (PySem.W.instObj C dx) /\
   ∃ mA, h.Ns1 dx mA /\ (∀ f, RelO (fs.lookup f) (mA f)) /\ PySem.Within mA (fs.map (·.1))
 | .own _ => ∃ o, h.get? a = some o
 | .xd fs => ∃ mA, h.Ns1 a mA /\ ∀ f, RelO (fs.lookup f) (mA f)
 | .rng lo hi => ∃ t u v, h.get? a = some { cls := .type "range", data := .fields #[.int lo t, .int hi u, .int 1 v] }
 | .frz o u => h.get? a = some o /\ q1K H h a u
 | .tbl ps => h.get? a = some { cls := .none, data := .fields ps }
 | .met f x => h.get? a = some (PySem.W.methodObj (.ref f) (.ref x))
 | .ext φ => φ h /\ (∃ o, h.get? a = some o) /\ ∀ h1 h2 : Heap, φ h1 -> (∀ o, h1.get? a = some o -> h2.get? a = some o) -> φ h2
noncomputable def HOk (H : Hp) (h : Heap) : Prop := ∀ a o, H a = some o -> q1K P w H h a o
end
section
variable {P : Program} {w : World} {H H' : Hp} {h h' : Heap} {a : Addr} {o : HO}
theorem q1K.lt (x : q1K P w H h a o) : a < h.objs.size := by
 cases o with
 | lst xs => obtain ⟨_, _, _, _, e⟩ := x; exact Heap.lt_size e
 | tup xs => obtain ⟨_, _, _, p⟩ := x; exact p.lt
 | dK kvs => obtain ⟨_, _, _, _, o, _, _, e, _⟩ := x; exact Heap.lt_size e
 | dT kvs => obtain ⟨_, _, _, _, o, _, _, e, _⟩ := x; exact Heap.lt_size e
 | set S n => obtain ⟨o, _, _, _, e, _⟩ := x; exact Heap.lt_size e
 | ins C dx fs => obtain ⟨_, _, _, e, _⟩ := x; exact Heap.lt_size e
 | own y => obtain ⟨_, e⟩ := x; exact Heap.lt_size e
 | xd fs => obtain ⟨_, ⟨_, _, _, e, _⟩, _⟩ := x; exact Heap.lt_size e
 | rng lo hi => obtain ⟨_, _, _, e⟩ := x; exact Heap.lt_size e
 | frz ob u => obtain ⟨e, _⟩ := x; exact Heap.lt_size e
 | tbl ps => exact Heap.lt_size (show h.get? a = some _ from x)
 | met f y => exact Heap.lt_size (show h.get? a = some _ from x)
 | ext φ => obtain ⟨_, ⟨_, e⟩, _⟩ := x; exact Heap.lt_size e
theorem Paired.mapP {α β : Type} {F G : α -> β -> Prop} : ∀ {l₁ : List α} {l₂ : List β}, Paired F l₁ l₂ -> (∀ a b, F a b -> G a b) -> Paired G l₁ l₂
 | _, _, .nil, _ => .nil
 | _, _, .cons r t, f => .cons (f _ _ r) (Paired.mapP t f)
theorem q1K.stay (x : q1K P w H h a o) (k : ∀ b u, (b = a \/ H b = some (.own a)) -> h.get? b = some u -> h'.get? b = some u)
  (ho : ∀ b, H b = some (.own a) -> H' b = some (.own a)) (ht : ∀ b xs, H b = some (.tup xs) -> H' b = some (.tup xs)) : q1K P w H' h' a o := by
 induction o with
 | lst xs => obtain ⟨z, its, n, r, e⟩ := x; exact ⟨z, its, n, r, k _ _ (.inl rfl) e⟩
 | tup xs => obtain ⟨z, its, r, ob, e, c⟩ := x; exact ⟨z, its, r, ob, k _ _ (.inl rfl) e, c⟩
 | dK kvs => obtain ⟨z, y, vs, r, ob, es, ep, e, c⟩ := x; exact ⟨z, y, vs, r, ob, es, ep, k _ _ (.inl rfl) e, c⟩
 | dT kvs =>
  obtain ⟨z, y, xs, r, ob, es, ep, e, c⟩ := x
  exact ⟨z, y, xs, Paired.mapP r λ p q z => ⟨z.1, ht _ _ z.2.1, z.2.2⟩, ob, es, ep, k _ _ (.inl rfl) e, c⟩
 | set S n => obtain ⟨ob, es, ep, t, e, c⟩ := x; exact ⟨ob, es, ep, t, k _ _ (.inl rfl) e, c⟩
 | ins C dx fs =>
  obtain ⟨d, z, ne, e, mA, ⟨od, es, ep, e2, c⟩, r⟩ := x
  exact ⟨ho _ d, z, ne, k _ _ (.inl rfl) e, mA, ⟨od, es, ep, k _ _ (.inr d) e2, c⟩, r⟩
 | own y => obtain ⟨ob, e⟩ := x; exact ⟨ob, k _ _ (.inl rfl) e⟩
 | xd fs => obtain ⟨mA, ⟨od, es, ep, e, c⟩, r⟩ := x; exact ⟨mA, ⟨od, es, ep, k _ _ (.inl rfl) e, c⟩, r⟩
 | rng lo hi => obtain ⟨t, u, v, e⟩ := x; exact ⟨t, u, v, k _ _ (.inl rfl) e⟩
 | frz ob u ih => obtain ⟨e, q⟩ := x; exact ⟨k _ _ (.inl rfl) e, ih q⟩
 | tbl ps =>
  have e : h.get? a = some { cls := .none, data := .fields ps } := x
  show h'.get? a = some { cls := .none, data := .fields ps }
  exact k a _ (.inl rfl) e
 | met f y =>
  have e : h.get? a = some (PySem.W.methodObj (.ref f) (.ref y)) := x
  show h'.get? a = some (PySem.W.methodObj (.ref f) (.ref y))
  exact k a _ (.inl rfl) e
 | ext φ => obtain ⟨p, ⟨o, e⟩, st⟩ := x; exact ⟨st _ _ p λ o q => k _ _ (.inl rfl) q, ⟨o, k _ _ (.inl rfl) e⟩, st⟩
theorem HOk.lt (x : HOk P w H h) (e : H a = some o) : a < h.objs.size := (x a o e).lt
theorem HOk.fresh (x : HOk P w H h) (e : h.objs.size <= a) : H a = none := by
 cases q : H a with
 | none => rfl
 | some u => exact absurd (Nat.lt_of_lt_of_le (x.lt q) e) (Nat.lt_irrefl _)
theorem HOk.kept (x : HOk P w H h) (k : ∀ b u, h.get? b = some u -> h'.get? b = some u) : HOk P w H h' := λ a o e =>
 (x a o e).stay (λ b u _ q => k b u q) (λ _ q => q) λ _ _ q => q
theorem HOk.laid (x : HOk P w H h) (k : ∀ b u, h.get? b = some u -> h'.get? b = some u) (hp : h.objs.size <= a) (new : q1K P w (upd H a o) h' a o) : HOk P w (upd H a o) h' := λ b u e => by
 have hn := x.fresh hp
 by_cases hb : b = a
 ·subst hb; rw [q0V] at e; cases e; exact new
 ·rw [q0w hb] at e
  exact (x b u e).stay (λ c v _ q => k c v q) (λ c q => by rw [q0w (q0t q hn)]; exact q) λ c xs q => by rw [q0w (q0t q hn)]; exact q
end
noncomputable def Rd (H : Hp) (a : Addr) (u : HO) : Prop := H a = some u \/ ∃ o, H a = some (.frz o u)
theorem Rd.ok {P : Program} {w : World} {H : Hp} {h : Heap} {a : Addr} {u : HO} (r : Rd H a u) (x : HOk P w H h) : q1K P w H h a u := by
 rcases r with r | ⟨o, r⟩
 ·exact x a u r
 ·obtain ⟨_, q⟩ := x a _ r
  exact q
noncomputable def Mut : Option HO -> Prop
 | some (.lst _) => True
 | some (.dK _) => True
 | some (.dT _) => True
 | some (.set _ _) => True
 | some (.ins _ _ _) => True
 | some (.ext _) => True
 | _ => False
section
variable {P : Program} {w : World} {H : Hp} {h h' : Heap} {x e : Addr} {o' : HO}
theorem HOk.write (ok : HOk P w H h) (mu : Mut (H x)) (he : e = x \/ H e = some (.own x)) (k : ∀ b u, b ≠ e -> h.get? b = some u -> h'.get? b = some u) (heo : ∃ u, h'.get? e = some u)
  (new : q1K P w (upd H x o') h' x o') : HOk P w (upd H x o') h' := λ b u q => by
 have nown : ∀ c y, H c = some (.own y) -> c ≠ x := λ c y r z => by subst z; rw [r] at mu; exact mu
 have ntup : ∀ c xs, H c = some (.tup xs) -> c ≠ x := λ c xs r z => by subst z; rw [r] at mu; exact mu
 by_cases hb : b = x
 ·subst hb; rw [q0V] at q; cases q; exact new
 ·rw [q0w hb] at q
  by_cases hbe : b = e
  ·have q' : H b = some (.own x) := by
    rcases he with z | z
    ·exact absurd (hbe.trans z) hb
    ·rw [hbe]; exact z
   rw [q] at q'; cases q'
   obtain ⟨v, hv⟩ := heo
   exact ⟨v, by rw [hbe]; exact hv⟩
  ·refine (ok b u q).stay (λ c v hc r => k c v ?_ r) (λ c r => by rw [q0w (nown c b r)]; exact r) λ c xs r => by rw [q0w (ntup c xs r)]; exact r
   rcases hc with rfl | hc
   ·exact hbe
   ·rintro rfl
    rcases he with z | z
    ·exact nown c b hc z
    ·rw [hc] at z; cases z; exact hb rfl
end
structure Un (fs ex : List Addr) (H H' : Hp) (h h' : Heap) : Prop where
 keep : ∀ b o, h.get? b = some o -> H b = none -> b ∉ fs -> b ∉ ex -> h'.get? b = some o
 slot : ∀ b o, h.get? b = some o -> H b = none -> b ∈ fs -> b ∉ ex -> ∃ sl, h'.get? b = some { o with slots := sl }
 free : ∀ b o, h.get? b = some o -> H b = none -> b ∉ ex -> H' b = none
 there : ∀ b o, h.get? b = some o -> b ∉ ex -> ∃ o', h'.get? b = some o'
 tups : ∀ b xs, H b = some (.tup xs) -> H' b = some (.tup xs)
 frzs : ∀ b o u, H b = some (.frz o u) -> H' b = some (.frz o u)
 tbls : ∀ b ps, H b = some (.tbl ps) -> ∃ more, H' b = some (.tbl (ps ++ more))
section
variable {fs fs' ex ex' : List Addr} {H H1 H2 : Hp} {h h1 h2 h' : Heap} {a x e : Addr} {o : HO}
theorem Un.any (u : Un fs ex H H1 h h1) {b : Addr} {ob : Obj} (q : h.get? b = some ob) (n : H b = none) (hx : b ∉ ex) : ∃ sl, h1.get? b = some { ob with slots := sl } := by
 by_cases hb : b ∈ fs
 ·exact u.slot b ob q n hb hx
 ·exact ⟨ob.slots, u.keep b ob q n hb hx⟩
theorem Un.kept (k : ∀ b u, h.get? b = some u -> h'.get? b = some u) : Un fs ex H H h h' :=
 ⟨λ b ob q _ _ _ => k b ob q, λ b ob q _ _ _ => ⟨ob.slots, k b ob q⟩, λ _ _ _ n _ => n, λ b ob q _ => ⟨ob, k b ob q⟩, λ _ _ q => q, λ _ _ _ q => q, λ _ ps q => ⟨#[], by rw [q]; simp⟩⟩
theorem Un.refl : Un fs ex H H h h := Un.kept λ _ _ q => q
theorem Un.laid (k : ∀ b u, h.get? b = some u -> h'.get? b = some u) (hp : h.objs.size <= a) (hn : H a = none) : Un fs ex H (upd H a o) h h' where
 keep := λ b u q _ _ _ => k b u q
 slot := λ b u q _ _ _ => ⟨u.slots, k b u q⟩
 free := λ b u q n _ => by rw [q0w (Nat.ne_of_lt (Nat.lt_of_lt_of_le (Heap.lt_size q) hp))]; exact n
 there := λ b u q _ => ⟨u, k b u q⟩
 tups := λ b xs q => by rw [q0w (q0t q hn)]; exact q
 frzs := λ b u xs q => by rw [q0w (q0t q hn)]; exact q
 tbls := λ b ps q => ⟨#[], by rw [q0w (q0t q hn), q]; simp⟩
theorem Un.write (mu : Mut (H x)) (he : e = x \/ H e = some (.own x)) (k : ∀ b u, b ≠ e -> h.get? b = some u -> h'.get? b = some u) (heo : ∃ u, h'.get? e = some u) : Un fs ex H (upd H x o) h h' := by
 have hx : ∀ b, H b = none -> b ≠ x := λ b n z => by subst z; rw [n] at mu; exact mu
 have hb : ∀ b, H b = none -> b ≠ e := λ b n z => by
  subst z
  rcases he with r | r
  ·exact hx b n r
  ·rw [n] at r; cases r
 have hm : ∀ b u, H b = some u -> ¬ Mut (some u) -> b ≠ x := λ b u q nm z => by subst z; rw [q] at mu; exact nm mu
 refine ⟨λ b u q n _ _ => k b u (hb b n) q, λ b u q n _ _ => ⟨u.slots, k b u (hb b n) q⟩, λ b u q n _ => by rw [q0w (hx b n)]; exact n, λ b u q _ => ?_,
  λ b xs q => by rw [q0w (hm b _ q λ z => z)]; exact q, λ b u xs q => by rw [q0w (hm b _ q λ z => z)]; exact q, λ b ps q => ⟨#[], by rw [q0w (hm b _ q λ z => z), q]; simp⟩⟩
 by_cases hbe : b = e
 ·subst hbe; exact heo
 ·exact ⟨u, k b u hbe q⟩
end
noncomputable def trk (h : Heap) (H : Hp) : List Addr := (List.range h.objs.size).filter λ a => (H a).isSome
noncomputable def hidT (h : Heap) (H : Hp) : Heap := PySem.W.hideAll h (trk h H)
theorem q8E (h : Heap) (H : Hp) : (hidT h H).objs.size = h.objs.size := PySem.W.hideAll_size _ _
theorem z0a {h : Heap} {H : Hp} {b : Addr} {o : Obj} (e : h.get? b = some o) (n : H b = none) : (hidT h H).get? b = some o :=
 PySem.W.hideAll_get _ e λ hm => by
  have q : (H b).isSome = true := (List.mem_filter.mp hm).2
  rw [n] at q; simp at q
theorem z2A {h : Heap} {H : Hp} {b : Addr} {o : Obj} (e : (hidT h H).get? b = some o) : h.get? b = some o /\ H b = none := by
 have e' : h.get? b = some o := PySem.W.of_hideAll (trk h H) e
 refine ⟨e', ?_⟩
 cases q : H b with
 | none => rfl
 | some x =>
  have hm : b ∈ trk h H := List.mem_filter.mpr ⟨List.mem_range.mpr (Heap.lt_size e'), by simp [q]⟩
  have z : (hidT h H).get? b = none := PySem.W.hideAll_none (trk h H) hm
  rw [z] at e; cases e
noncomputable def z1r (g h : Heap) (L : Addr) : List (Addr × Obj) := (List.range h.objs.size).filterMap λ a => if a = L \/ (g.get? a).isSome = true then none else (h.get? a).map λ o => (a, o)
noncomputable def rest (g h : Heap) (L d : Addr) : List (Addr × Obj) := (z1r g h L).filter λ p => decide (p.1 ≠ d)
end L2
namespace L2
open PySem PySem.Spec PyProof.Rows
structure Mod (K : PySem.W.Frag) (mg : Str -> Option Value) (base : Heap) : Prop where
 kin : K.In base
 glob : base.Ns mainGlobals mg
 blt : ∃ mb, base.Ns builtinsNs mb /\ ∀ x : Str, x ≠ "__name__" -> mb x = bootBuiltins x
 nolimit : base.NoLimit
structure Cx where
 prog : Program
 w : World
 K : PySem.W.Frag
 mg : Str -> Option Value
 base : Heap
 A : Around
 N : List Str
 s₀ : Shared
 H₀ : Hp
 env : Env
 outer : List Env
 stack : List Env
 ex : List Addr
 fn : Str -> Bool
 calm : Bool
 pn : List (Addr × Obj)
 xe : Value -> Shared -> Prop
noncomputable def frs (l : List Env) : List Addr := l.filterMap (·.frame)
noncomputable abbrev Cx.fs (X : Cx) : List Addr := frs X.outer
noncomputable def Vis (sc : Scope) (x : Str) : Prop := sc.names.lookup x = some .local \/ sc.names.lookup x = some .cell \/ sc.names.lookup x = some .free
noncomputable def Loc (sc : Scope) (x : Str) : Prop := sc.names.lookup x = some .local \/ sc.names.lookup x = some .cell
noncomputable def Look (env : Env) (h : Heap) (m : Str -> Option Value) (x : Str) (u : Value) : Prop :=
 (env.kindOf x = some .local /\ m x = some u) \/ ((env.kindOf x = some .cell \/ env.kindOf x = some .free) /\ ∃ c, env.cells.lookup x = some c /\ h.IsCell c (some u))
structure Cx.Ok (X : Cx) : Prop where
 mod : Mod X.K X.mg X.base
 kind : X.env.scope.kind = .function
 glob : X.env.globals = mainGlobals
 blt : X.env.builtins = builtinsNs
 above : X.s₀.heap.objs.size <= X.env.locals
 inj : ∀ x y c, X.env.cells.lookup x = some c -> X.env.cells.lookup y = some c -> x = y
 has : ∀ x, (X.env.kindOf x = some .cell \/ X.env.kindOf x = some .free) -> ∃ c, X.env.cells.lookup x = some c
 cab : ∀ x c, X.fn x = true -> X.env.cells.lookup x = some c -> X.s₀.heap.objs.size <= c
 hd : X.calm = true -> X.A.handled = none
 frames : X.A.frames = some X.stack
 stk : X.stack = X.outer \/ (X.stack = X.env :: X.outer /\ X.env.frame = some X.env.locals)
 exf : ∀ b ∈ X.ex, b ≠ X.env.locals /\ ∀ x c, X.env.cells.lookup x = some c -> c ≠ b
 bs : ∀ b o, X.base.get? b = some o -> X.s₀.heap.get? b = some o /\ X.H₀ b = none
 bsz : X.base.objs.size <= X.s₀.heap.objs.size
 noex : ∀ b o, X.base.get? b = some o -> b ∉ X.ex
 exfs : ∀ b ∈ X.ex, b ∉ X.fs
 funs : X.s₀.heap.FunFrames X.base X.outer
 frf : ∀ b ∈ X.fs, X.H₀ b = none
structure Inv (X : Cx) (pins : List (Addr × Obj)) (σ : List (Option V)) (H : Hp) (s : Shared) : Prop where
 ok : X.Ok
 os : s.os = X.s₀.os
 bare : AllBare s.gens
 base : Un X.fs X.ex X.H₀ H X.s₀.heap s.heap
 loc : ∃ m, s.heap.Ns X.env.locals m /\ ∀ (i : Nat) (x : Str) (v : V), X.N[i]? = some x -> σ[i]? = some (some v) -> Vis X.env.scope x -> ∃ u, RelV v u /\ Look X.env s.heap m x u
 cell : ∀ x c, X.env.cells.lookup x = some c -> ∃ v, s.heap.IsCell c v
 free : H X.env.locals = none
 freeC : ∀ x c, X.env.cells.lookup x = some c -> H c = none
 pin : ∀ p ∈ X.pn ++ pins, s.heap.get? p.1 = some p.2 /\ H p.1 = none /\ p.1 ≠ X.env.locals /\ p.1 ∉ X.fs /\ ∀ v, p.2.data ≠ .cell v
 hok : HOk X.prog X.w H s.heap
 len : σ.length = X.N.length
section
variable {X : Cx} {pins : List (Addr × Obj)} {σ : List (Option V)} {H H' : Hp} {s : Shared} {h' : Heap}
theorem Cx.Ok.nofr (ok : X.Ok) {b : Addr} {o : Obj} (e : X.base.get? b = some o) : b ∉ X.fs := λ hb => by
 have := (ok.funs.mem hb).1
 rw [e] at this; cases this
theorem Inv.bs (I : Inv X pins σ H s) : ∀ b o, X.base.get? b = some o -> s.heap.get? b = some o /\ H b = none := λ b o e =>
 ⟨I.base.keep b o (I.ok.bs b o e).1 (I.ok.bs b o e).2 (I.ok.nofr e) (I.ok.noex b o e), I.base.free b o (I.ok.bs b o e).1 (I.ok.bs b o e).2 (I.ok.noex b o e)⟩
theorem Inv.bk (I : Inv X pins σ H s) : ∀ b o, X.base.get? b = some o -> s.heap.get? b = some o := λ b o e => (I.bs b o e).1
theorem Inv.mod (I : Inv X pins σ H s) : Mod X.K X.mg X.base := I.ok.mod
theorem Inv.kIn (I : Inv X pins σ H s) : X.K.In s.heap := I.ok.mod.kin.keeps I.bk
theorem Inv.lt (I : Inv X pins σ H s) : X.env.locals < s.heap.objs.size := let ⟨_, hn, _⟩ := I.loc; hn.lt
theorem Inv.sz (I : Inv X pins σ H s) : X.s₀.heap.objs.size <= s.heap.objs.size := Nat.le_trans I.ok.above (Nat.le_of_lt I.lt)
theorem Inv.nofs (I : Inv X pins σ H s) {a : Addr} (h : s.heap.objs.size <= a) : a ∉ X.fs := λ hb => by
 obtain ⟨_, o, ho, _⟩ := I.ok.funs.mem hb
 exact absurd (Nat.lt_of_lt_of_le (Heap.lt_size ho) (Nat.le_trans I.sz h)) (Nat.lt_irrefl _)
theorem Inv.cne (I : Inv X pins σ H s) : ∀ x c, X.env.cells.lookup x = some c -> c ≠ X.env.locals := λ x c e z => by
 obtain ⟨v, o, ho, hd⟩ := I.cell x c e
 obtain ⟨m, ⟨o', es, ep, ho', hd', _⟩, _⟩ := I.loc
 rw [z, ho'] at ho; cases ho; rw [hd'] at hd; cases hd
theorem Inv.funs (I : Inv X pins σ H s) : s.heap.FunFrames X.base X.outer := by
 have all : ∀ (l : List Env), (∀ b ∈ frs l, b ∈ X.fs) -> X.s₀.heap.FunFrames X.base l -> s.heap.FunFrames X.base l := by
  intro l
  induction l with
  | nil => intro _ _; trivial
  | cons env r ih =>
   intro hs hl
   obtain ⟨hk, ⟨L, o, hf, hn, ho, hd⟩, hr⟩ := hl
   have hL : L ∈ X.fs := hs L (by unfold frs; rw [List.filterMap_cons, hf]; exact List.mem_cons_self)
   obtain ⟨sl, e⟩ := I.base.slot L o ho (I.ok.frf L hL) hL λ z => I.ok.exfs L z hL
   exact ⟨hk, ⟨L, _, hf, hn, e, hd⟩, ih (λ b hb => hs b (by unfold frs; rw [List.filterMap_cons, hf]; exact List.mem_cons_of_mem _ hb)) hr⟩
 exact all X.outer (λ _ hb => hb) I.ok.funs
theorem Inv.stack (I : Inv X pins σ H s) : s.heap.FunFrames X.base X.stack := by
 rcases I.ok.stk with e | ⟨e, hf⟩
 ·rw [e]; exact I.funs
 ·rw [e]
  obtain ⟨m, hn, _⟩ := I.loc
  refine .cons (by rw [I.ok.kind]; decide) hf hn ?_ I.funs
  exact Heap.get?_none_of_le (Nat.le_trans I.ok.bsz I.ok.above)
theorem Inv.stkSub (I : Inv X pins σ H s) : ∀ b ∈ frs X.stack, b ∈ X.env.locals :: X.fs := λ b hb => by
 rcases I.ok.stk with e | ⟨e, hf⟩
 ·rw [e] at hb; exact List.mem_cons_of_mem _ hb
 ·rw [e] at hb
  unfold frs at hb
  rw [List.filterMap_cons, hf] at hb
  exact hb
theorem Inv.stkFree (I : Inv X pins σ H s) : ∀ b ∈ frs X.stack, H b = none := λ b hb => by
 rcases List.mem_cons.mp (I.stkSub b hb) with e | hb
 ·rw [e]; exact I.free
 ·obtain ⟨_, o, ho, _⟩ := I.ok.funs.mem hb
  exact I.base.free b o ho (I.ok.frf b hb) λ z => I.ok.exfs b z hb
theorem Inv.step {g' : Array GenState} {t' : Nat} {d' : Drawn} {ch : List Addr} (I : Inv X pins σ H s)
  (hch : ∀ b ∈ ch, (b ∈ X.ex \/ X.s₀.heap.objs.size <= b) /\ b ≠ X.env.locals /\ (∀ x c, X.env.cells.lookup x = some c -> c ≠ b) /\ ∀ p ∈ X.pn ++ pins, p.1 ≠ b)
  (keep : ∀ b o, b ≠ X.env.locals -> b ∉ X.fs -> b ∉ ch -> s.heap.get? b = some o -> H b = none -> h'.get? b = some o)
  (slot : ∀ b o, b ≠ X.env.locals -> b ∈ X.fs -> b ∉ ch -> s.heap.get? b = some o -> H b = none -> ∃ sl, h'.get? b = some { o with slots := sl }) (free : ∀ b o, b ∉ ch -> s.heap.get? b = some o -> H b = none -> H' b = none)
  (there : ∀ b o, b ∉ ch -> s.heap.get? b = some o -> ∃ o', h'.get? b = some o')
  (tups : ∀ b xs, H b = some (.tup xs) -> H' b = some (.tup xs)) (frzs : ∀ b o u, H b = some (.frz o u) -> H' b = some (.frz o u)) (tbls : ∀ b ps, H b = some (.tbl ps) -> ∃ more, H' b = some (.tbl (ps ++ more)))
  (ns : ∀ m, s.heap.Ns X.env.locals m -> h'.Ns X.env.locals m) (hok : HOk X.prog X.w H' h') (hg : AllBare g') :
  Inv X pins σ H' { s with heap := h', gens := g', drawn := d', toks := t' } := by
 have neL : ∀ b o, X.s₀.heap.get? b = some o -> b ≠ X.env.locals := λ b o e => Nat.ne_of_lt (Nat.lt_of_lt_of_le (Heap.lt_size e) I.ok.above)
 have neC : ∀ b o, X.s₀.heap.get? b = some o -> b ∉ X.ex -> b ∉ ch := λ b o e hx hb => by
  rcases (hch b hb).1 with z | z
  ·exact hx z
  ·exact absurd (Nat.lt_of_lt_of_le (Heap.lt_size e) z) (Nat.lt_irrefl _)
 have cellK : ∀ x c, X.env.cells.lookup x = some c -> ∀ v, s.heap.IsCell c v -> h'.IsCell c v := λ x c e v ⟨o, ho, hd⟩ => by
  have nch : c ∉ ch := λ z => (hch c z).2.2.1 x c e rfl
  by_cases hc : c ∈ X.fs
  ·obtain ⟨sl, q⟩ := slot c o (I.cne x c e) hc nch ho (I.freeC x c e)
   exact ⟨_, q, hd⟩
  ·exact ⟨o, keep c o (I.cne x c e) hc nch ho (I.freeC x c e), hd⟩
 refine ⟨I.ok, I.os, hg, ⟨λ b o e n hb hx => ?_, λ b o e n hb hx => ?_, λ b o e n hx => ?_, λ b o e hx => ?_, λ b xs e => tups b xs (I.base.tups b xs e), λ b o xs e => frzs b o xs (I.base.frzs b o xs e), λ b ps e => ?_⟩, ?_, λ x c e => ?_, ?_, λ x c e => ?_, λ p hp => ?_, hok, I.len⟩
 ·exact keep b o (neL b o e) hb (neC b o e hx) (I.base.keep b o e n hb hx) (I.base.free b o e n hx)
 ·obtain ⟨sl, e1⟩ := I.base.slot b o e n hb hx
  obtain ⟨sl', e2⟩ := slot b _ (neL b o e) hb (neC b o e hx) e1 (I.base.free b o e n hx)
  exact ⟨sl', e2⟩
 ·obtain ⟨o', e1⟩ := I.base.there b o e hx
  exact free b o' (neC b o e hx) e1 (I.base.free b o e n hx)
 ·obtain ⟨o', e1⟩ := I.base.there b o e hx
  exact there b o' (neC b o e hx) e1
 ·obtain ⟨m1, e1⟩ := I.base.tbls b ps e
  obtain ⟨m2, e2⟩ := tbls b _ e1
  exact ⟨m1 ++ m2, by rw [e2, Array.append_assoc]⟩
 ·obtain ⟨m, hn, hl⟩ := I.loc
  refine ⟨m, ns m hn, λ i x v e1 e2 e3 => ?_⟩
  obtain ⟨u, r, l⟩ := hl i x v e1 e2 e3
  refine ⟨u, r, ?_⟩
  rcases l with l | ⟨k, c, e, z⟩
  ·exact .inl l
  ·exact .inr ⟨k, c, e, cellK x c e _ z⟩
 ·obtain ⟨v, z⟩ := I.cell x c e
  exact ⟨v, cellK x c e v z⟩
 ·obtain ⟨m, ⟨o, _, _, ho, _⟩, _⟩ := I.loc
  exact free _ o (λ z => (hch _ z).2.1 rfl) ho I.free
 ·obtain ⟨v, o, ho, hd⟩ := I.cell x c e
  exact free c o (λ z => (hch c z).2.2.1 x c e rfl) ho (I.freeC x c e)
 ·obtain ⟨e, n, ne, nf, d⟩ := I.pin p hp
  have nch : p.1 ∉ ch := λ z => (hch p.1 z).2.2.2 p hp rfl
  exact ⟨keep p.1 p.2 ne nf nch e n, free p.1 p.2 nch e n, ne, nf, d⟩
theorem Inv.un {t' : Nat} (I : Inv X pins σ H s) (u : Un X.fs [] H H' s.heap h') (hok : HOk X.prog X.w H' h') : Inv X pins σ H' { s with heap := h', toks := t' } := by
 obtain ⟨m, ⟨o, es, ep, ho, r⟩, _⟩ := id I.loc
 obtain ⟨sl, hL⟩ := u.any ho I.free (by simp)
 exact I.step (g' := s.gens) (d' := s.drawn) (ch := []) (λ _ z => nomatch z) (λ b o _ hb _ e n => u.keep b o e n hb (by simp)) (λ b o _ hb _ e n => u.slot b o e n hb (by simp)) (λ b o _ e n => u.free b o e n (by simp)) (λ b o _ e => u.there b o e (by simp)) u.tups u.frzs u.tbls (λ m' hm => by
  obtain ⟨o', es', ep', ho', r'⟩ := hm
  rw [ho] at ho'; cases ho'
  exact ⟨_, es', ep', hL, r'⟩) hok I.bare
theorem Inv.call {g' : Array GenState} {t' : Nat} {d' : Drawn} {ch : List Addr} (I : Inv X pins σ H s) (u : Un (frs X.stack) ch H H' s.heap h') (hok : HOk X.prog X.w H' h') (hg : AllBare g')
  (hch : ∀ b ∈ ch, (b ∈ X.ex \/ X.s₀.heap.objs.size <= b) /\ b ≠ X.env.locals /\ (∀ x c, X.env.cells.lookup x = some c -> c ≠ b) /\ ∀ p ∈ X.pn ++ pins, p.1 ≠ b) :
  Inv X pins σ H' { s with heap := h', gens := g', drawn := d', toks := t' } := by
 obtain ⟨m, ⟨o, es, ep, ho, r⟩, _⟩ := id I.loc
 obtain ⟨sl, hL⟩ := u.any ho I.free λ z => (hch _ z).2.1 rfl
 exact I.step (ch := ch) hch (λ b o hL hb hc e n => u.keep b o e n (λ z => (List.mem_cons.mp (I.stkSub b z)).elim hL hb) hc) (λ b o _ _ hc e n => u.any e n hc) (λ b o hc e n => u.free b o e n hc) (λ b o hc e => u.there b o e hc) u.tups u.frzs u.tbls (λ m' hm => by
  obtain ⟨o', es', ep', ho', r'⟩ := hm
  rw [ho] at ho'; cases ho'
  exact ⟨_, es', ep', hL, r'⟩) hok hg
theorem Inv.turned {t' : Nat} {it : Addr} (I : Inv X pins σ H s) (k : ∀ b o, b ≠ it -> s.heap.get? b = some o -> h'.get? b = some o) (hn : H it = none) (hL : it ≠ X.env.locals)
  (h1 : it ∈ X.ex \/ X.s₀.heap.objs.size <= it) (h2 : ∀ x c, X.env.cells.lookup x = some c -> c ≠ it) (h3 : ∀ p ∈ X.pn ++ pins, p.1 ≠ it) : Inv X pins σ H { s with heap := h', toks := t' } := by
 have nit : ∀ b u, H b = some u -> b ≠ it := λ b u e z => by rw [z, hn] at e; cases e
 refine I.step (g' := s.gens) (d' := s.drawn) (ch := [it]) (λ b hb => ?_) (λ b o _ _ hc e _ => k b o (λ z => hc (by simp [z])) e) (λ b o _ _ hc e _ => ⟨o.slots, k b o (λ z => hc (by simp [z])) e⟩) (λ _ _ _ _ n => n)
  (λ b o hc e => ⟨o, k b o (λ z => hc (by simp [z])) e⟩) (λ _ _ e => e) (λ _ _ _ e => e) (λ b ps e => ⟨#[], by rw [e]; simp⟩) (λ m hm => ?_) (λ b u e => ?_) I.bare
 ·have e : b = it := by simpa using hb
  subst e
  exact ⟨h1, hL, h2, h3⟩
 ·obtain ⟨o, es, ep, ho, r⟩ := hm
  exact ⟨o, es, ep, k _ o (Ne.symm hL) ho, r⟩
 ·refine (I.hok b u e).stay (λ c v hc q => k c v ?_ q) (λ _ q => q) λ _ _ q => q
  rcases hc with z | z
  ·rw [z]; exact nit b u e
  ·exact nit c _ z
theorem Inv.tok (I : Inv X pins σ H s) (t : Nat) : Inv X pins σ H { s with toks := t } := I.un (h' := s.heap) (t' := t) Un.refl I.hok
theorem Inv.kept {t' : Nat} (I : Inv X pins σ H s) (k : ∀ b u, s.heap.get? b = some u -> h'.get? b = some u) : Inv X pins σ H { s with heap := h', toks := t' } := I.un (Un.kept k) (I.hok.kept k)
theorem Inv.laid {a : Addr} {o : HO} {t' : Nat} (I : Inv X pins σ H s) (k : ∀ b u, s.heap.get? b = some u -> h'.get? b = some u) (hp : s.heap.objs.size <= a) (new : q1K X.prog X.w (upd H a o) h' a o) :
  Inv X pins σ (upd H a o) { s with heap := h', toks := t' } := I.un (Un.laid k hp (I.hok.fresh hp)) (I.hok.laid k hp new)
theorem Inv.write {x e : Addr} {o : HO} {t' : Nat} (I : Inv X pins σ H s) (mu : Mut (H x)) (he : e = x \/ H e = some (.own x)) (k : ∀ b u, b ≠ e -> s.heap.get? b = some u -> h'.get? b = some u) (heo : ∃ u, h'.get? e = some u)
  (new : q1K X.prog X.w (upd H x o) h' x o) : Inv X pins σ (upd H x o) { s with heap := h', toks := t' } := I.un (Un.write mu he k heo) (I.hok.write mu he k heo new)
theorem Inv.pins_of {pins' : List (Addr × Obj)} (I : Inv X pins σ H s) (h : ∀ p ∈ pins', s.heap.get? p.1 = some p.2 /\ H p.1 = none /\ p.1 ≠ X.env.locals /\ p.1 ∉ X.fs /\ ∀ v, p.2.data ≠ .cell v) : Inv X pins' σ H s :=
 ⟨I.ok, I.os, I.bare, I.base, I.loc, I.cell, I.free, I.freeC, λ p hp => (List.mem_append.mp hp).elim (λ z => I.pin p (List.mem_append_left _ z)) (h p), I.hok, I.len⟩
theorem q3x {N : List Str} (hN : N.Nodup) {i j : Nat} {x : Str} (a : N[i]? = some x) (b : N[j]? = some x) : i = j := by
 obtain ⟨h1, e1⟩ := List.getElem?_eq_some_iff.mp a
 obtain ⟨h2, e2⟩ := List.getElem?_eq_some_iff.mp b
 exact (List.getElem_inj hN).mp (e1.trans e2.symm)
theorem q5j {M : Model} {A : Around} {E : Value -> Shared -> Prop} {i : Nat} {x : Str} {v : V} {u : Value} {Q : Unit -> Shared -> Prop} (I : Inv X pins σ H s) (hN : X.N.Nodup) (hi : X.N[i]? = some x) (hx : Loc X.env.scope x) (r : RelV v u)
  (h : ∀ s', Inv X pins (σ.set i (some v)) H s' -> (∃ a, Heap.SameBut a s.heap s'.heap /\ (a = X.env.locals \/ X.env.cells.lookup x = some a)) -> Q () s') (hf : X.fn x = true \/ X.env.scope.names.lookup x = some .local := by first | exact .inl rfl | exact .inr rfl | assumption) : wpAny M A (storeName X.env x u) Q E s := by
 obtain ⟨m, hn, hl⟩ := id I.loc
 have hcls : (X.env.scope.kind == .class || (X.env.scope.kind == .module && X.env.locals != X.env.globals)) = false := by rw [I.ok.kind]; rfl
 have hiσ : i < σ.length := by rw [I.len]; exact (List.getElem?_eq_some_iff.mp hi).1
 have cne := I.cne
 have tracked : ∀ {a : Addr} {h' : Heap}, (∃ o, s.heap.get? a = some o /\ H a = none) -> Heap.SameBut a s.heap h' -> HOk X.prog X.w H h' := λ {a h'} ha hs b ob e => by
  obtain ⟨_, _, hfree⟩ := ha
  refine (I.hok b ob e).stay (λ c w' hc q => (hs.2 c ?_).trans q) (λ _ q => q) λ _ _ q => q
  rintro rfl
  rcases hc with rfl | hc
  ·rw [hfree] at e; cases e
  ·rw [hfree] at hc; cases hc
 rcases hx with hk | hk
 ·refine wpAny_storeName_local hk hn (λ h' hn' hs => ?_) hcls
  obtain ⟨oL, _, _, hoL, _⟩ := id hn
  refine h _ ⟨I.ok, I.os, I.bare, ⟨λ b o e n hb hx => ?_, λ b o e n hb hx => ?_, I.base.free, λ b o e hx => ?_, I.base.tups, I.base.frzs, I.base.tbls⟩, ⟨_, hn', λ j y v' e1 e2 e3 => ?_⟩, λ y c e => ?_, I.free, I.freeC, λ p hp => ?_, tracked ⟨oL, hoL, I.free⟩ hs, by simpa using I.len⟩ ⟨_, hs, .inl rfl⟩
  ·exact (hs.2 b (Nat.ne_of_lt (Nat.lt_of_lt_of_le (Heap.lt_size e) I.ok.above))).trans (I.base.keep b o e n hb hx)
  ·obtain ⟨sl, e1⟩ := I.base.slot b o e n hb hx
   exact ⟨sl, (hs.2 b (Nat.ne_of_lt (Nat.lt_of_lt_of_le (Heap.lt_size e) I.ok.above))).trans e1⟩
  ·obtain ⟨o', e1⟩ := I.base.there b o e hx
   exact ⟨o', (hs.2 b (Nat.ne_of_lt (Nat.lt_of_lt_of_le (Heap.lt_size e) I.ok.above))).trans e1⟩
  ·by_cases hj : j = i
   ·subst hj
    rw [hi] at e1; cases e1
    rw [List.getElem?_set_self hiσ] at e2
    cases e2
    exact ⟨u, r, .inl ⟨hk, by simp⟩⟩
   ·rw [List.getElem?_set_ne (Ne.symm hj)] at e2
    obtain ⟨u', r', q⟩ := hl j y v' e1 e2 e3
    refine ⟨u', r', ?_⟩
    rcases q with ⟨k, e⟩ | ⟨k, c, e, z⟩
    ·refine .inl ⟨k, ?_⟩
     have : y ≠ x := λ e => hj (q3x hN e1 (e ▸ hi))
     simp [this, e]
    ·exact .inr ⟨k, c, e, z.sameBut hs (cne y c e)⟩
  ·obtain ⟨w', z⟩ := I.cell y c e
   exact ⟨w', z.sameBut hs (cne y c e)⟩
  ·obtain ⟨e, n, ne, nf, d⟩ := I.pin p hp
   exact ⟨(hs.2 p.1 ne).trans e, n, ne, nf, d⟩
 ·have hfn : X.fn x = true := by
   rcases hf with z | z
   ·exact z
   ·rw [z] at hk; cases hk
  obtain ⟨c, hc⟩ := I.ok.has x (.inl hk)
  obtain ⟨w', z⟩ := I.cell x c hc
  refine wpAny_storeName_cell I.ok.kind hk hc z (λ h' hc' hs => ?_)
  obtain ⟨oc, hoc, hocd⟩ := id z
  refine h { s with heap := h' } ⟨I.ok, I.os, I.bare, ⟨λ b o e n hb hx => ?_, λ b o e n hb hx => ?_, I.base.free, λ b o e hx => ?_, I.base.tups, I.base.frzs, I.base.tbls⟩, ⟨m, hn.sameBut hs (Ne.symm (cne x c hc)), λ j y v' e1 e2 e3 => ?_⟩, λ y c' e => ?_, I.free, I.freeC, λ p hp => ?_, tracked ⟨oc, hoc, I.freeC x c hc⟩ hs, by simpa using I.len⟩ ⟨c, hs, .inr hc⟩
  ·exact (hs.2 b (Nat.ne_of_lt (Nat.lt_of_lt_of_le (Heap.lt_size e) (I.ok.cab x c hfn hc)))).trans (I.base.keep b o e n hb hx)
  ·obtain ⟨sl, e1⟩ := I.base.slot b o e n hb hx
   exact ⟨sl, (hs.2 b (Nat.ne_of_lt (Nat.lt_of_lt_of_le (Heap.lt_size e) (I.ok.cab x c hfn hc)))).trans e1⟩
  ·obtain ⟨o', e1⟩ := I.base.there b o e hx
   exact ⟨o', (hs.2 b (Nat.ne_of_lt (Nat.lt_of_lt_of_le (Heap.lt_size e) (I.ok.cab x c hfn hc)))).trans e1⟩
  ·by_cases hj : j = i
   ·subst hj
    rw [hi] at e1; cases e1
    rw [List.getElem?_set_self hiσ] at e2
    cases e2
    exact ⟨u, r, .inr ⟨.inl hk, c, hc, hc'⟩⟩
   ·rw [List.getElem?_set_ne (Ne.symm hj)] at e2
    obtain ⟨u', r', q⟩ := hl j y v' e1 e2 e3
    refine ⟨u', r', ?_⟩
    rcases q with q | ⟨k, c', e, z'⟩
    ·exact .inl q
    ·refine .inr ⟨k, c', e, z'.sameBut hs ?_⟩
     rintro rfl
     exact hj (q3x hN e1 (I.ok.inj _ _ _ e hc ▸ hi))
  ·by_cases hcc : c' = c
   ·subst hcc; exact ⟨_, hc'⟩
   ·obtain ⟨w2, z2⟩ := I.cell y c' e
    exact ⟨w2, z2.sameBut hs hcc⟩
  ·obtain ⟨e, n, ne, nf, d⟩ := I.pin p hp
   refine ⟨(hs.2 p.1 ?_).trans e, n, ne, nf, d⟩
   intro q
   rw [q, hoc] at e
   have q' : oc = p.2 := Option.some.inj e
   exact d w' (by rw [← q']; exact hocd)
theorem q2Y {M : Model} {A : Around} {E : Value -> Shared -> Prop} {i : Nat} {x : Str} {v : V} {u : Value} {Q : Unit -> Shared -> Prop} (I : Inv X pins σ H s) (hN : X.N.Nodup) (hi : X.N[i]? = some x) (hx : Loc X.env.scope x) (r : RelV v u)
  (h : ∀ s', Inv X pins (σ.set i (some v)) H s' -> Q () s') (hf : X.fn x = true \/ X.env.scope.names.lookup x = some .local := by first | exact .inl rfl | exact .inr rfl | assumption) : wpAny M A (storeName X.env x u) Q E s :=
 q5j I hN hi hx r (λ s' I' _ => h s' I') hf
theorem Inv.call' {s' : Shared} {ch : List Addr} (I : Inv X pins σ H s) (ho : s'.os = s.os) (u : Un (frs X.stack) ch H H' s.heap s'.heap) (hok : HOk X.prog X.w H' s'.heap) (hg : AllBare s'.gens)
  (hch : ∀ b ∈ ch, (b ∈ X.ex \/ X.s₀.heap.objs.size <= b) /\ b ≠ X.env.locals /\ (∀ x c, X.env.cells.lookup x = some c -> c ≠ b) /\ ∀ p ∈ X.pn ++ pins, p.1 ≠ b) : Inv X pins σ H' s' := by
 obtain ⟨h', g', d', t', o'⟩ := s'
 have e : o' = s.os := ho
 subst e
 exact I.call (g' := g') (t' := t') (d' := d') u hok hg hch
end
noncomputable abbrev XK := Value -> Option Addr -> Hp -> Prop
noncomputable abbrev St := List (Option V)
noncomputable abbrev VK := V -> Hp -> Prop
noncomputable abbrev TE := St -> Hp -> VK -> Prop
noncomputable abbrev TT := St -> Hp -> (Bool -> Hp -> Prop) -> Prop
noncomputable abbrev TA := St -> Hp -> (List V -> Hp -> Prop) -> Prop
structure Ends where
 nx : St -> Hp -> Prop
 rt : VK
 bk : St -> Hp -> Prop := λ _ _ => False
 ct : St -> Hp -> Prop := λ _ _ => False
noncomputable abbrev TS := Ends -> St -> Hp -> Prop
noncomputable def EP (X : Cx) (pins : List (Addr × Obj)) (σ : St) (Q : VK) (u : Value) (s' : Shared) : Prop := ∃ v H', Inv X pins σ H' s' /\ RelV v u /\ Q v H'
noncomputable def TP (X : Cx) (pins : List (Addr × Obj)) (σ : St) (Q : Bool -> Hp -> Prop) (b : Bool) (s' : Shared) : Prop := ∃ H', Inv X pins σ H' s' /\ Q b H'
noncomputable def AP (X : Cx) (pins : List (Addr × Obj)) (σ : St) (Q : List V -> Hp -> Prop) (us : List Value) (s' : Shared) : Prop := ∃ vs H', Inv X pins σ H' s' /\ Vals vs us /\ Q vs H'
noncomputable def SP (X : Cx) (pins : List (Addr × Obj)) (D : Ends) (f : Flow) (s' : Shared) : Prop :=
 match f with
 | .next => ∃ σ' H', Inv X pins σ' H' s' /\ D.nx σ' H'
 | .brk => ∃ σ' H', Inv X pins σ' H' s' /\ D.bk σ' H'
 | .cont => ∃ σ' H', Inv X pins σ' H' s' /\ D.ct σ' H'
 | .ret u => ∃ v σ' H', Inv X pins σ' H' s' /\ RelV v u /\ D.rt v H'
noncomputable def PE (X : Cx) (e : Expr) (t : TE) : Prop :=
 ∀ (pins : List (Addr × Obj)) (s : Shared) (σ : St) (H : Hp) (Q : VK), Inv X pins σ H s -> t σ H Q -> wpAny (model X.prog X.w) X.A (eval e X.env) (EP X pins σ Q) X.xe s
noncomputable def PT (X : Cx) (e : Expr) (t : TT) : Prop :=
 ∀ (pins : List (Addr × Obj)) (s : Shared) (σ : St) (H : Hp) (Q : Bool -> Hp -> Prop), Inv X pins σ H s -> t σ H Q -> wpAny (model X.prog X.w) X.A (isTrue e X.env (eval e X.env)) (TP X pins σ Q) X.xe s
noncomputable def PW (X : Cx) (e : Expr) (t : TT) : Prop :=
 ∀ (whole : Sem Value) (pins : List (Addr × Obj)) (s : Shared) (σ : St) (H : Hp) (Q : Bool -> Hp -> Prop), Inv X pins σ H s -> t σ H Q -> wpAny (model X.prog X.w) X.A (isTrue e X.env whole) (TP X pins σ Q) X.xe s
theorem PW.pt {X : Cx} {e : Expr} {t : TT} (h : PW X e t) : PT X e t := h _
noncomputable def PA (X : Cx) (es : List Expr) (t : TA) : Prop :=
 ∀ (pos : Pos) (pins : List (Addr × Obj)) (s : Shared) (σ : St) (H : Hp) (Q : List V -> Hp -> Prop), Inv X pins σ H s -> t σ H Q -> wpAny (model X.prog X.w) X.A (spliced (backTo pos (starEach es X.env))) (AP X pins σ Q) X.xe s
noncomputable def PS (X : Cx) (st : Stmt) (t : TS) : Prop :=
 ∀ (pins : List (Addr × Obj)) (s : Shared) (σ : St) (H : Hp) (D : Ends), Inv X pins σ H s -> t D σ H -> wpAny (model X.prog X.w) X.A (exec st X.env) (SP X pins D) X.xe s
noncomputable def PSs (X : Cx) (st : List Stmt) (t : TS) : Prop :=
 ∀ (pins : List (Addr × Obj)) (s : Shared) (σ : St) (H : Hp) (D : Ends), Inv X pins σ H s -> t D σ H -> wpAny (model X.prog X.w) X.A (execs st X.env) (SP X pins D) X.xe s
theorem thn {α : Type} {t : Sem α} {Q Q' : α -> Shared -> Prop} {M : Model} {A : Around} {E : Value -> Shared -> Prop} {s : Shared} (h : wpAny M A t Q E s) (hQ : ∀ a s, Q a s -> Q' a s) : wpAny M A t Q' E s := wpAny_mono h hQ λ _ _ x => x
end L2
namespace L2
open PySem PySem.Spec PyProof.Rows
section
variable {X : Cx}
theorem bin {a b : Expr} {ta tb : TE} (ha : PE X a ta) (hb : PE X b tb) {pins : List (Addr × Obj)} {s : Shared} {σ : St} {H : Hp} {R : V -> V -> Hp -> Prop} (I : Inv X pins σ H s) (h : ta σ H λ x H1 => tb σ H1 λ y H2 => R x y H2)
  {α : Type} {Q : α -> Shared -> Prop} {f : Value -> Value -> Sem α}
  (hf : ∀ v u s2 x y H2, Inv X pins σ H2 s2 -> RelV x v -> RelV y u -> R x y H2 -> wpAny (model X.prog X.w) X.A (f v u) Q X.xe s2) :
  wpAny (model X.prog X.w) X.A (eval a X.env) (λ v s₁ => wpAny (model X.prog X.w) X.A (eval b X.env) (λ u s₂ => wpAny (model X.prog X.w) X.A (f v u) Q X.xe s₂) X.xe s₁) X.xe s := by
 refine thn (ha pins s σ H _ I h) λ v s1 ⟨x, H1, I1, r1, q1⟩ => ?_
 refine thn (hb pins s1 σ H1 _ I1 q1) λ u s2 ⟨y, H2, I2, r2, q2⟩ => ?_
 exact hf v u s2 x y H2 I2 r1 r2 q2
noncomputable def tVar (i : Nat) : TE := λ σ H Q => ∃ v, σ[i]? = some (some v) /\ Q v H
noncomputable def tC (v : V) : TE := λ _ H Q => Q v H
theorem q5D {i : Nat} {x : Str} {pos : Pos} (hN : X.N[i]? = some x) (hv : Vis X.env.scope x) (hd : (x == ("__debug__" : Str)) = false := by decide) (hcd : (x == ("__classdict__" : Str)) = false := by decide) : PE X (.Name x pos) (tVar i) := by
 intro pins s σ H Q I h
 obtain ⟨v, e, h⟩ := h
 obtain ⟨m, hn, hl⟩ := I.loc
 obtain ⟨u, r, l⟩ := hl i x v hN e hv
 have fin : EP X pins σ Q u s := ⟨v, H, I, r, h⟩
 rcases l with ⟨hk, hm⟩ | ⟨hk, c, hc, hcell⟩
 ·exact wpAny_Name (wpAny_loadName_local I.ok.kind hk hn hm fin) hd
 ·rcases hk with hk | hk
  ·exact wpAny_Name (wpAny_loadName_cell I.ok.kind hk hc hcell fin) hd
  ·exact wpAny_Name (wpAny_loadName_free I.ok.kind hk hc hcell fin hcd) hd
theorem z2Y {i j pos} : PE X (.Constant (.int i) j pos) (tC (.int i)) := λ _ _ _ H _ I h => wpAny_Constant_int ⟨.int i, H, I.tok _, ⟨_, rfl⟩, h⟩
theorem z5A {b j pos} : PE X (.Constant (.bool b) j pos) (tC (.bl b)) := λ _ _ _ H _ I h => Constant_bool ⟨.bl b, H, I, rfl, h⟩
theorem z4v {j pos} : PE X (.Constant .none j pos) (tC .non) := λ _ _ _ H _ I h => Constant_none ⟨.non, H, I, rfl, h⟩
theorem z3V {x j pos} : PE X (.Constant (.str x) j pos) (tC (.str x)) := λ _ _ _ H _ I h => Calls.Constant_str ⟨.str x, H, I.tok _, ⟨_, rfl⟩, h⟩
noncomputable def Gl (X : Cx) (x : Str) : Prop := X.env.kindOf x = some .globalImplicit
theorem q4Y {E : Value -> Shared -> Prop} {pins : List (Addr × Obj)} {s : Shared} {σ : St} {H : Hp} {x : Str} {u : Value} {pos : Pos} {Q : Value -> Shared -> Prop} (I : Inv X pins σ H s) (hg : Gl X x) (hm : X.mg x = some u) (h : Q u s)
  (hd : (x == ("__debug__" : Str)) = false := by decide) : wpAny (model X.prog X.w) X.A (eval (.Name x pos) X.env) Q E s :=
 Calls.Name_function_global I.ok.kind hg (Calls.loadGlobal_global (by rw [I.ok.glob]; exact I.mod.glob.keeps I.bk) hm h) hd
theorem q4p {E : Value -> Shared -> Prop} {pins : List (Addr × Obj)} {s : Shared} {σ : St} {H : Hp} {x : Str} {u : Value} {pos : Pos} {Q : Value -> Shared -> Prop} (I : Inv X pins σ H s) (hg : Gl X x) (hm : X.mg x = none) (hv : bootBuiltins x = some u) (h : Q u s)
  (hn : x ≠ "__name__" := by decide) (hd : (x == ("__debug__" : Str)) = false := by decide) : wpAny (model X.prog X.w) X.A (eval (.Name x pos) X.env) Q E s := by
 obtain ⟨mb, h1, h2⟩ := I.mod.blt
 exact Calls.Name_function_global I.ok.kind hg (Calls.loadGlobal_builtin (by rw [I.ok.glob]; exact I.mod.glob.keeps I.bk) hm (by rw [I.ok.blt]; exact h1.keeps I.bk) ((h2 x hn).trans hv) h) hd
theorem q8e {x : Str} {v : V} {u : Value} {pos : Pos} (hg : Gl X x) (hm : X.mg x = some u) (r : RelV v u) (hd : (x == ("__debug__" : Str)) = false := by decide) : PE X (.Name x pos) (tC v) :=
 λ _ _ _ H _ I h => q4Y I hg hm ⟨v, H, I, r, h⟩ hd
theorem q4B {x : Str} {v : V} {u : Value} {pos : Pos} (hg : Gl X x) (hm : X.mg x = none) (hv : bootBuiltins x = some u) (r : RelV v u) (hn : x ≠ "__name__" := by decide) (hd : (x == ("__debug__" : Str)) = false := by decide) : PE X (.Name x pos) (tC v) :=
 λ _ _ _ H _ I h => q4p I hg hm hv ⟨v, H, I, r, h⟩ hn hd
variable {a b : Expr} {ta tb : TE} {pos : Pos}
variable {tA tB' : TT} {rest : List Expr}
noncomputable def tAnd (t u : TT) : TT := λ σ H Q => t σ H λ c H1 => if c = true then u σ H1 Q else Q false H1
noncomputable def tOr (t u : TT) : TT := λ σ H Q => t σ H λ c H1 => if c = true then Q true H1 else u σ H1 Q
noncomputable def tNot (t : TT) : TT := λ σ H Q => t σ H λ c H1 => Q (!c) H1
theorem z1U (ha : PT X a tA) : PW X (.BoolOp .And [a] pos) tA := by
 intro wh pins s σ H Q I h
 refine isTrue_and (thn (ha pins s σ H Q I h) λ c s1 e => ?_)
 cases c with
 | true => exact isTrue_and_nil e
 | false => exact e
theorem z4w (ha : PT X a tA) : PW X (.BoolOp .Or [a] pos) tA := by
 intro wh pins s σ H Q I h
 refine isTrue_or (thn (ha pins s σ H Q I h) λ c s1 e => ?_)
 cases c with
 | false => exact isTrue_or_nil e
 | true => exact e
theorem q9d (ha : PT X a tA) (hb : PW X (.BoolOp .And (b :: rest) pos) tB') : PW X (.BoolOp .And (a :: b :: rest) pos) (tAnd tA tB') := by
 intro wh pins s σ H Q I h
 refine isTrue_and (thn (ha pins s σ H _ I h) λ c s1 ⟨H1, I1, q1⟩ => ?_)
 cases c with
 | true => exact hb wh pins s1 σ H1 Q I1 q1
 | false => exact ⟨H1, I1, q1⟩
theorem z2E (ha : PT X a tA) (hb : PW X (.BoolOp .Or (b :: rest) pos) tB') : PW X (.BoolOp .Or (a :: b :: rest) pos) (tOr tA tB') := by
 intro wh pins s σ H Q I h
 refine isTrue_or (thn (ha pins s σ H _ I h) λ c s1 ⟨H1, I1, q1⟩ => ?_)
 cases c with
 | true => exact ⟨H1, I1, q1⟩
 | false => exact hb wh pins s1 σ H1 Q I1 q1
theorem z0V (ha : PT X a tA) : PT X (.UnaryOp .Not a pos) (tNot tA) := by
 intro pins s σ H Q I h
 exact isTrue_not (ha pins s σ H (λ c H1 => Q (!c) H1) I h)
theorem z0H {op} {t : TE} (h : PE X a t) : PE X (.BoolOp op [a] pos) t := λ pins s σ H Q I hw => BoolOp_one (h pins s σ H Q I hw)
noncomputable def tIf (t : TT) (ta tb : TE) : TE := λ σ H Q => t σ H λ c H1 => if c = true then ta σ H1 Q else tb σ H1 Q
theorem q4K {c : Expr} (hc : PT X c tA) (ha : PE X a ta) (hb : PE X b tb) : PE X (.IfExp c a b pos) (tIf tA ta tb) := by
 intro pins s σ H Q I h
 refine wpAny_IfExp (thn (hc pins s σ H _ I h) λ d s1 ⟨H1, I1, q1⟩ => ?_)
 cases d with
 | true => exact ha pins s1 σ H1 Q I1 q1
 | false => exact hb pins s1 σ H1 Q I1 q1
end
end L2
namespace L2
open PySem PySem.Spec PyProof.Rows
noncomputable def SqL (K : PySem.W.Frag) (H : Hp) (a : Addr) (xs : List V) : Prop :=
 Rd H a (.lst xs) \/
  ∃ (o : Obj) (its : Array Value) (n : Nat), K.lookup a = some o /\ o.cls = .type "list" /\ o.dict = none /\ o.data = .seq its n /\ its.size <= sizeLine /\ Vals xs its.toList
noncomputable def SqT (K : PySem.W.Frag) (H : Hp) (a : Addr) (xs : List V) : Prop :=
 Rd H a (.tup xs) \/
  ∃ (o : Obj) (its : Array Value) (n : Nat), K.lookup a = some o /\ (o.cls = .type "tuple" /\ o.dict = none) /\ o.data = .seq its n /\ its.size <= sizeLine /\ Vals xs its.toList
noncomputable def absV : Value -> Option V
 | .none => some .non
 | .bool b => some (.bl b)
 | .int i _ => some (.int i)
 | .str x _ => some (.str x)
 | .bytes b _ => some (.byt b)
 | .float b _ => some (.flt b)
 | .ref a => some (.ref a)
 | .type n => some (.ty n)
 | _ => none
theorem RelV.abs {x : V} {u : Value} (r : RelV x u) : absV u = some x := by
 cases x with
 | non => cases r; rfl
 | bl _ => cases r; rfl
 | int _ => obtain ⟨t, rfl⟩ := r; rfl
 | str _ => obtain ⟨t, rfl⟩ := r; rfl
 | byt _ => obtain ⟨t, rfl⟩ := r; rfl
 | flt _ => obtain ⟨t, rfl⟩ := r; rfl
 | ref _ => cases r; rfl
 | ty _ => cases r; rfl
theorem RelV.inj {x y : V} {u : Value} (r : RelV x u) (q : RelV y u) : x = y := Option.some.inj (r.abs.symm.trans q.abs)
theorem Vals.inj {xs ys : List V} {us : List Value} (h : Vals xs us) : Vals ys us -> xs = ys := by
 induction h generalizing ys with
 | nil => intro t; cases t; rfl
 | cons r _ ih => intro t; cases t with | cons r' t' => rw [r.inj r', ih t']
section
variable {X : Cx} {pins : List (Addr × Obj)} {σ : St} {H : Hp} {s : Shared} {a : Addr} {xs ys : List V}
theorem SqL.of {K : PySem.W.Frag} (h : H a = some (.lst xs)) : SqL K H a xs := .inl (.inl h)
theorem SqT.of {K : PySem.W.Frag} (h : H a = some (.tup xs)) : SqT K H a xs := .inl (.inl h)
theorem Inv.list (I : Inv X pins σ H s) (h : SqL X.K H a xs) : ∃ its : List Value, Vals xs its /\ PlainL s.heap a its.toArray /\ xs.length <= sizeLine := by
 rcases h with h | ⟨o, its, n, hk, hc, hd, hs, hz, r⟩
 ·obtain ⟨z, its, n, r, e⟩ := h.ok I.hok
  exact ⟨its, r, ⟨_, n, e, rfl, rfl, rfl⟩, z⟩
 ·refine ⟨its.toList, r, ⟨o, n, I.kIn a o hk, hc, hd, by simpa using hs⟩, ?_⟩
  have e := r.length
  simp only [Array.length_toList] at e
  omega
theorem Inv.tuple (I : Inv X pins σ H s) (h : SqT X.K H a xs) : ∃ its : List Value, Vals xs its /\ IsTup s.heap a its.toArray /\ xs.length <= sizeLine := by
 rcases h with h | ⟨o, its, n, hk, hc, hs, hz, r⟩
 ·obtain ⟨z, its, r, p⟩ := h.ok I.hok
  exact ⟨its, r, p.tup, z⟩
 ·refine ⟨its.toList, r, ⟨o, I.kIn a o hk, hc.1, n, by simpa using hs⟩, ?_⟩
  have e := r.length
  simp only [Array.length_toList] at e
  omega
theorem Inv.list_inj (I : Inv X pins σ H s) (h : SqL X.K H a xs) (h' : SqL X.K H a ys) : xs = ys := by
 obtain ⟨its, r, ⟨o, n, e, _, _, d⟩, _⟩ := I.list h
 obtain ⟨its', r', ⟨o', n', e', _, _, d'⟩, _⟩ := I.list h'
 rw [e] at e'; cases e'
 rw [d] at d'
 injection d' with d1 _
 have : its = its' := by simpa using congrArg Array.toList d1
 subst this
 exact r.inj r'
theorem Inv.tuple_inj (I : Inv X pins σ H s) (h : SqT X.K H a xs) (h' : SqT X.K H a ys) : xs = ys := by
 obtain ⟨its, r, ⟨o, e, _, n, d⟩, _⟩ := I.tuple h
 obtain ⟨its', r', ⟨o', e', _, n', d'⟩, _⟩ := I.tuple h'
 rw [e] at e'; cases e'
 rw [d] at d'
 injection d' with d1 _
 have : its = its' := by simpa using congrArg Array.toList d1
 subst this
 exact r.inj r'
end
section
variable {X : Cx} {pins : List (Addr × Obj)} {σ : St} {H : Hp} {s : Shared} {E : Value -> Shared -> Prop}
end
section
variable {X : Cx} {st : Stmt} {rest : List Stmt} {t u : TS} {e : Expr} {te : TE} {pos : Pos}
noncomputable def z5r : TS := λ D σ H => D.nx σ H
noncomputable def tSeq (t u : TS) : TS := λ D σ H => t { D with nx := u D } σ H
theorem z1l : PSs X [] z5r := λ _ _ σ H _ I h => wpAny_execs_nil ⟨σ, H, I, h⟩
theorem q3G (h1 : PS X st t) (h2 : PSs X rest u) : PSs X (st :: rest) (tSeq t u) := by
 intro pins s σ H D I h
 refine wpAny_execs_cons (thn (h1 pins s σ H { D with nx := u D } I h) λ f s1 q => ?_)
 cases f with
 | next =>
  obtain ⟨σ', H', I', q⟩ := q
  exact h2 pins s1 σ' H' D I' q
 | ret v => exact q
 | brk => exact q
 | cont => exact q
theorem z2L (h1 : PS X st t) : PSs X [st] t := by
 intro pins s σ H D I h
 refine wpAny_execs_cons (thn (h1 pins s σ H D I h) λ f s1 q => ?_)
 cases f with
 | next => exact wpAny_execs_nil q
 | ret v => exact q
 | brk => exact q
 | cont => exact q
theorem Inv.quiet {pins : List (Addr × Obj)} {σ : St} {H : Hp} {s : Shared} (I : Inv X pins σ H s) : interactive X.env = false := by simp [interactive, I.ok.kind]
noncomputable def z5l (te : TE) : TS := λ D σ H => te σ H λ _ H1 => D.nx σ H1
theorem q4z (he : PE X e te) (hs : swapsWith e none pos.line X.env = pure false := by rfl) : PS X (.Expr e pos) (z5l te) := by
 intro pins s σ H D I h
 exact wpAny_Expr_any (thn (he pins s σ H _ I h) λ v s1 ⟨x, H1, I1, r1, q1⟩ => ⟨σ, H1, I1, q1⟩) I.quiet hs
noncomputable def tRet (te : TE) : TS := λ D σ H => te σ H D.rt
theorem q5E (he : PE X e te) : PS X (.Return (some e) pos) (tRet te) := by
 intro pins s σ H D I h
 exact wpAny_Return_some (thn (he pins s σ H _ I h) λ v s1 ⟨x, H1, I1, r1, q1⟩ => ⟨x, σ, H1, I1, r1, q1⟩)
noncomputable def tIfS (c : TT) (t u : TS) : TS := λ D σ H => c σ H λ b H1 => if b = true then t D σ H1 else u D σ H1
theorem z2K {c : Expr} {a b : List Stmt} {tc : TT} (hc : PT X c tc) (ha : PSs X a t) (hb : PSs X b u) : PS X (.If c a b pos) (tIfS tc t u) := by
 intro pins s σ H D I h
 refine wpAny_If (thn (hc pins s σ H _ I h) λ d s1 ⟨H1, I1, q1⟩ => ?_)
 cases d with
 | true => exact ha pins s1 σ H1 D I1 q1
 | false => exact hb pins s1 σ H1 D I1 q1
noncomputable def z4s : TS := λ _ _ _ => False
theorem q1G {sts : List Stmt} : PSs X sts z4s := λ _ _ _ _ _ _ h => h.elim
end
noncomputable abbrev TG := V -> St -> Hp -> (St -> Hp -> Prop) -> Prop
noncomputable abbrev TGs := List V -> St -> Hp -> (St -> Hp -> Prop) -> Prop
noncomputable def PG (X : Cx) (target : Expr) (t : TG) : Prop :=
 ∀ (pins : List (Addr × Obj)) (s : Shared) (σ : St) (H : Hp) (v : V) (u : Value) (Q : St -> Hp -> Prop), Inv X pins σ H s -> RelV v u -> t v σ H Q ->
  wpAny (model X.prog X.w) X.A (assign target X.env u) (λ _ s' => ∃ σ' H', Inv X pins σ' H' s' /\ Q σ' H') X.xe s
noncomputable def PGs (X : Cx) (ts : List Expr) (t : TGs) : Prop :=
 ∀ (pins : List (Addr × Obj)) (s : Shared) (σ : St) (H : Hp) (vs : List V) (us : List Value) (Q : St -> Hp -> Prop), Inv X pins σ H s -> Vals vs us -> t vs σ H Q ->
  wpAny (model X.prog X.w) X.A (assignInOrder ((assignEach ts X.env).map (·.2)) us) (λ _ s' => ∃ σ' H', Inv X pins σ' H' s' /\ Q σ' H') X.xe s
noncomputable abbrev TSet := V -> V -> V -> Hp -> (Hp -> Prop) -> Prop
noncomputable def PSet (X : Cx) (t : TSet) : Prop :=
 ∀ (pins : List (Addr × Obj)) (s : Shared) (σ : St) (H : Hp) (o i v : V) (ov iv u : Value) (Q : Hp -> Prop), Inv X pins σ H s -> RelV o ov -> RelV i iv -> RelV v u -> t o i v H Q ->
  wpAny (model X.prog X.w) X.A (setItem ov iv u) (λ _ s' => ∃ H', Inv X pins σ H' s' /\ Q H') X.xe s
section
variable {X : Cx} {pos : Pos}
noncomputable def q7y (i : Nat) : TG := λ v σ H Q => Q (σ.set i (some v)) H
theorem q9a {i : Nat} {x : Str} (hN : X.N.Nodup) (hi : X.N[i]? = some x) (hx : Loc X.env.scope x) (hf : X.fn x = true \/ X.env.scope.names.lookup x = some .local := by first | exact .inl rfl | exact .inr rfl | assumption) : PG X (.Name x pos) (q7y i) := by
 intro pins s σ H v u Q I r h
 exact wpAny_assign_Name (q2Y I hN hi hx r (λ s' I' => ⟨_, H, I', h⟩) hf)
noncomputable def gNil : TGs := λ vs σ H Q => vs = [] /\ Q σ H
noncomputable def z2X (t : TG) (u : TGs) : TGs := λ vs σ H Q => ∃ v r, vs = v :: r /\ t v σ H λ σ' H' => u r σ' H' Q
theorem z2v : PGs X [] gNil := by
 intro pins s σ H vs us Q I r h
 obtain ⟨e, h⟩ := h
 subst e
 cases r
 exact assignInOrder_nil ⟨σ, H, I, h⟩
theorem z0q {e : Expr} {es : List Expr} {t : TG} {u : TGs} (h1 : PG X e t) (h2 : PGs X es u)
  (hs : (assignEach (e :: es) X.env).map (·.2) = assign e X.env :: (assignEach es X.env).map (·.2) := by rfl) : PGs X (e :: es) (z2X t u) := by
 intro pins s σ H vs us Q I r h
 obtain ⟨v, vr, e1, h⟩ := h
 subst e1
 cases r with
 | cons r rr =>
  rw [hs]
  refine assignInOrder_cons (thn (h1 pins s σ H _ _ _ I r h) λ _ s1 ⟨σ1, H1, I1, q1⟩ => ?_)
  exact h2 pins s1 σ1 H1 _ _ Q I1 rr q1
noncomputable def gTup (K : PySem.W.Frag) (n : Nat) (t : TGs) : TG := λ v σ H Q => ∃ a xs, v = .ref a /\ SqT K H a xs /\ xs.length = n /\ t xs σ H Q
theorem z3d {es : List Expr} {k : Nat} {t : TGs} {n : Nat} (hc : X.calm = true) (h : PGs X es t)
  (hn : (assignEach es X.env).length = n := by rfl) (hst : (assignEach es X.env).findIdx? (·.1) = none := by rfl) : PG X (.Tuple es k pos) (gTup X.K n t) := by
 intro pins s σ H v u Q I r hw
 obtain ⟨a, xs, e1, hq, hl, hw⟩ := hw
 subst e1
 cases r
 obtain ⟨its, rv, ht, hz⟩ := I.tuple hq
 refine assign_Tuple_tuple (I.ok.hd hc) ht (by simp [hn, ← hl, rv.length]) hst λ h' hx => ?_
 have I1 : Inv X pins σ H { s with heap := h' } := I.kept (t' := s.toks) λ b o e => hx b o (Nat.ne_of_lt (Heap.lt_size e)) e
 exact h pins _ σ H xs _ Q I1 (by simpa using rv) hw
noncomputable def gSub (to ti : TE) (t : TSet) : TG := λ v σ H Q => to σ H λ o H1 => ti σ H1 λ i H2 => t o i v H2 λ H3 => Q σ H3
theorem z4d {o i : Expr} {to ti : TE} {t : TSet} (ho : PE X o to) (hi : PE X i ti) (hs : PSet X t)
  (ha : ∀ v, assign (.Subscript o i pos) X.env v = (do
   let ov ← holding [v] (eval o X.env)
   let iv ← holding [v, ov] (eval i X.env)
   standAt pos
   holding [v, ov, iv] (setItem ov iv v)
   release [v, ov, iv] []) := by intro _; rfl) : PG X (.Subscript o i pos) (gSub to ti t) := by
 intro pins s σ H v u Q I r h
 rw [ha]
 refine wpAny_bind (wpAny_holding (thn (ho pins s σ H _ I h) λ ov s1 ⟨x, H1, I1, r1, q1⟩ => ?_))
 refine wpAny_bind (wpAny_holding (thn (hi pins s1 σ H1 _ I1 q1) λ iv s2 ⟨y, H2, I2, r2, q2⟩ => ?_))
 refine wpAny_bind (wpAny_standAt (wpAny_bind (wpAny_holding (thn (hs pins s2 σ H2 x y v ov iv u _ I2 r1 r2 r q2) λ _ s3 ⟨H3, I3, q3⟩ => ?_))))
 exact wpAny_release ⟨σ, H3, I3, q3⟩
noncomputable def tAsg (te : TE) (g : TG) : TS := λ D σ H => te σ H λ x H1 => g x σ H1 D.nx
theorem z4y {tg e : Expr} {te : TE} {g : TG} (he : PE X e te) (hg : PG X tg g) (hs : swapsWithSole [tg] e pos.line X.env = pure false := by rfl) (hw : swappedStores [tg] e X.env = pure none := by rfl)
  (h1 : (assignEach [tg] X.env).map (·.2) = [assign tg X.env] := by rfl) : PS X (.Assign [tg] e pos) (tAsg te g) := by
 intro pins s σ H D I h
 refine wpAny_Assign_stores (thn (he pins s σ H _ I h) λ v s1 ⟨x, H1, I1, r1, q1⟩ => ?_) hs hw
 rw [h1]
 exact thn (hg pins s1 σ H1 x v _ I1 r1 q1) λ _ s2 q => q
theorem q8L {i : Nat} {x : Str} {e : Expr} {te : TE} {pos' : Pos} (hN : X.N.Nodup) (hi : X.N[i]? = some x) (hx : Loc X.env.scope x) (he : PE X e te) (hs : swapsWith e (some (.Name x pos')) pos.line X.env = pure false := by rfl) (hf : X.fn x = true \/ X.env.scope.names.lookup x = some .local := by first | exact .inl rfl | exact .inr rfl | assumption) :
  PS X (.Assign [.Name x pos'] e pos) (tAsg te (q7y i)) := by
 intro pins s σ H D I h
 refine wpAny_Assign_Name (thn (he pins s σ H _ I h) λ v s1 ⟨y, H1, I1, r1, q1⟩ => ?_) hs
 exact q2Y I1 hN hi hx r1 (λ s2 I2 => ⟨_, H1, I2, q1⟩) hf
noncomputable def tPar (i j : Nat) (ta : TA) : TS := λ D σ H => ta σ H λ vs H1 => ∃ v w, vs = [v, w] /\ D.nx ((σ.set i (some v)).set j (some w)) H1
theorem z2Z {i j : Nat} {x y : Str} {a b : Expr} {ta : TA} {px py pt : Pos} {kt k2 pt2} (hc : X.calm = true) (hN : X.N.Nodup) (hi : X.N[i]? = some x) (hj : X.N[j]? = some y) (hij : i ≠ j)
  (hx : X.env.scope.names.lookup x = some .local) (hy : X.env.scope.names.lookup y = some .local) (ha : PA X [a, b] ta)
  (hw : swappedStores [.Tuple [.Name x px, .Name y py] kt pt] (.Tuple [a, b] k2 pt2) X.env = pure (some [x, y]))
  (hs : swapsWithSole [.Tuple [.Name x px, .Name y py] kt pt] (.Tuple [a, b] k2 pt2) pos.line X.env = pure false := by rfl) :
  PS X (.Assign [.Tuple [.Name x px, .Name y py] kt pt] (.Tuple [a, b] k2 pt2) pos) (tPar i j ta) := by
 intro pins s σ H D I h
 rw [exec_Assign_arm]
 refine wpAny_bind (wpAny_standAt ?_)
 rw [hs]
 refine wpAny_bind (wpAny_pure ?_)
 rw [if_neg (by decide)]
 refine wpAny_bind (Tuple_ (thn (ha _ pins s σ H _ I h) λ us s1 ⟨vs, H1, I1, r1, q1⟩ => ?_))
 obtain ⟨v, w, e1, q1⟩ := q1
 subst e1
 obtain ⟨u1, u2, rfl, rv, rw'⟩ : ∃ u1 u2, us = [u1, u2] /\ RelV v u1 /\ RelV w u2 := by
  cases r1 with
  | cons p q =>
   cases q with
   | cons p' q' =>
    cases q'
    exact ⟨_, _, rfl, p, p'⟩
 refine wpAny_newObj_type ?_ (by show 2 <= sizeLine; decide)
 have I2 : Inv X pins σ H1 { s1 with heap := s1.heap.push { cls := .type "tuple", data := .seq [u1, u2].toArray } } := I1.kept (t' := s1.toks) λ b o e => Heap.get?_push_of_some _ e
 rw [hw]
 refine wpAny_bind (wpAny_pure ?_)
 show wpAny (model X.prog X.w) X.A (do rule "assign.swapped-stores"; let items ← unpackItems (.ref s1.heap.objs.size) 2 none; assignInOrder [λ v => bindName X.env y v, λ v => bindName X.env x v] items.reverse; pure Flow.next) _ _ _
 refine wpAny_bind (wpAny_rule (wpAny_bind (unpackItems_tuple (items := #[u1, u2]) (I.ok.hd hc) (IsTup.new s1.heap _) λ h' hx' => ?_)))
 have I3 := I2.kept (h' := h') (t' := s1.toks) λ b o e => hx' b o (Nat.ne_of_lt (Heap.lt_size e)) e
 show wpAny _ _ (assignInOrder [λ v => bindName X.env y v, λ v => bindName X.env x v] [u2, u1] >>= λ _ => pure Flow.next) _ _ _
 refine wpAny_bind (assignInOrder_cons (wpAny_bindName (q2Y I3 hN hj (.inl hy) rw' (λ s2 I4 => ?_) (.inr hy))))
 refine assignInOrder_cons (wpAny_bindName (q2Y I4 hN hi (.inl hx) rv (λ s3 I5 => assignInOrder_nil (wpAny_pure ?_)) (.inr hx)))
 rw [List.set_comm _ _ (Ne.symm hij)] at I5
 exact ⟨_, H1, I5, q1⟩
end
section
variable {X : Cx} {pos : Pos}
noncomputable def z3J (c : TT) (tb : TS) : TS := λ D σ H => ∃ W : Nat -> St -> Hp -> Prop, (∃ m, W m σ H) /\ ∀ m σ H, W m σ H ->
 c σ H λ b H1 => if b = true then ∃ N : St -> Hp -> Prop, (∀ σ' H', N σ' H' -> ∃ m', m' < m /\ W m' σ' H') /\ tb { D with nx := N, ct := N, bk := D.nx } σ H1 else D.nx σ H1
theorem q9B {c : Expr} {body : List Stmt} {tc : TT} {tb : TS} (hp : PassesOwn (model X.prog X.w) X.A X.env X.xe) (hc : PT X c tc) (hb : PSs X body tb) : PS X (.While c body [] pos) (z3J tc tb) := by
 intro pins s σ H D I h
 obtain ⟨W, ⟨m0, w0⟩, turn⟩ := h
 refine wpAny_While (codeAny_whileLoop (λ n s' => ∃ σ' H', Inv X pins σ' H' s' /\ W n σ' H') ?_ m0 ⟨σ, H, I, w0⟩)
 rintro n s1 ⟨σ1, H1, I1, w1⟩
 refine wpAny_passesOwn hp (thn (hc pins s1 σ1 H1 _ I1 (turn n σ1 H1 w1)) λ b s2 ⟨H2, I2, q2⟩ => ?_)
 cases b with
 | true =>
  obtain ⟨N, hN, q2⟩ := q2
  rw [if_pos rfl]
  refine wpAny_passesOwn hp (thn (hb pins s2 σ1 H2 _ I2 q2) λ f s3 q3 => ?_)
  cases f with
  | next =>
   obtain ⟨σ3, H3, I3, n3⟩ := q3
   obtain ⟨m', hm, w3⟩ := hN σ3 H3 n3
   exact ⟨m', hm, σ3, H3, I3, w3⟩
  | cont =>
   obtain ⟨σ3, H3, I3, n3⟩ := q3
   obtain ⟨m', hm, w3⟩ := hN σ3 H3 n3
   exact ⟨m', hm, σ3, H3, I3, w3⟩
  | brk => exact q3
  | ret v => exact q3
 | false =>
  rw [if_neg Bool.false_ne_true]
  exact wpAny_execs_nil ⟨σ1, H2, I2, q2⟩
end
structure It where
 go : Nat -> Hp -> Prop
 yld : Nat -> Hp -> V -> Hp -> Prop
 stop : Nat -> Hp -> Prop
noncomputable def FpOk (X : Cx) (pins : List (Addr × Obj)) (H : Hp) (b : Addr) : Prop :=
 H b = none /\ b ≠ X.env.locals /\ b ∉ X.fs /\ (b ∈ X.ex \/ X.s₀.heap.objs.size <= b) /\ (∀ x c, X.env.cells.lookup x = some c -> c ≠ b) /\ ∀ p ∈ X.pn ++ pins, p.1 ≠ b
theorem Inv.fpOk {X : Cx} {pins : List (Addr × Obj)} {σ : St} {H H' : Hp} {s : Shared} {b : Addr} (I : Inv X pins σ H s) (hb : s.heap.objs.size <= b) (hn : H' b = none) : FpOk X pins H' b := by
 refine ⟨hn, Nat.ne_of_gt (Nat.lt_of_lt_of_le I.lt hb), I.nofs hb, .inr (Nat.le_trans I.sz hb), λ x c e z => ?_, λ p hp z => ?_⟩
 ·obtain ⟨v, q⟩ := I.cell x c e
  exact absurd (Nat.lt_of_lt_of_le q.lt (by rw [z]; exact hb)) (Nat.lt_irrefl _)
 ·exact absurd (Nat.lt_of_lt_of_le (Heap.lt_size (I.pin p hp).1) (by rw [z]; exact hb)) (Nat.lt_irrefl _)
structure Turn (P : Program) (w : World) (K : PySem.W.Frag) (tg : Expr) (J : It) (fp : List Addr) (it : Addr) (tn : Nat -> Heap -> Prop) : Prop where
 mem : it ∈ fp
 obj : ∀ i h, tn i h -> ∀ b ∈ fp, ∃ o, h.get? b = some o /\ ∀ v, o.data ≠ .cell v
 keep : ∀ i h h', tn i h -> (∀ b ∈ fp, ∀ o, h.get? b = some o -> h'.get? b = some o) -> tn i h'
 item : ∀ (X : Cx), X.prog = P -> X.w = w -> X.K = K -> X.calm = true -> ∀ (i : Nat) (pins : List (Addr × Obj)) (s : Shared) (σ : St) (H : Hp) (E : Value -> Shared -> Prop), Inv X pins σ H s -> (∀ b ∈ fp, FpOk X pins H b) -> tn i s.heap -> J.go i H ->
  wpAny (model P w) X.A (pyNext (.ref it)) (λ r s1 => ∃ u, r = some u /\
   wpAny (model P w) X.A (letOwnedTupleGo tg (.ref it) u) (λ _ s2 => ∃ x H', Inv X pins σ H' s2 /\ RelV x u /\ J.yld i H x H' /\ tn (i + 1) s2.heap /\ ∀ b ∈ fp, H' b = none) E s1) E s
 done : ∀ (X : Cx), X.prog = P -> X.w = w -> X.K = K -> X.calm = true -> ∀ (i : Nat) (pins : List (Addr × Obj)) (s : Shared) (σ : St) (H : Hp) (E : Value -> Shared -> Prop), Inv X pins σ H s -> (∀ b ∈ fp, FpOk X pins H b) -> tn i s.heap -> J.stop i H ->
  wpAny (model P w) X.A (pyNext (.ref it)) (λ r s1 => r = none /\ Inv X pins σ H s1) E s
 self : ∀ (A : Around) (i : Nat) (s : Shared) (Q : Value -> Shared -> Prop) (E : Value -> Shared -> Prop), tn i s.heap -> Q (.ref it) s -> wpAny (model P w) A (pyIter (.ref it)) Q E s
noncomputable abbrev TI := St -> Hp -> (It -> Hp -> Prop) -> Prop
noncomputable def PIE (X : Cx) (pins : List (Addr × Obj)) (σ : St) (tg : Expr) (R : It -> Hp -> Prop) (itv : Value) (s2 : Shared) : Prop :=
 ∃ (it : Addr) (fp : List Addr) (tn : Nat -> Heap -> Prop) (J : It) (H' : Hp), itv = .ref it /\ Inv X pins σ H' s2 /\ Turn X.prog X.w X.K tg J fp it tn /\ tn 0 s2.heap /\ (∀ b ∈ fp, FpOk X pins H' b) /\ R J H'
noncomputable def PI (X : Cx) (tg iter : Expr) (wi : TI) : Prop :=
 ∀ (pins : List (Addr × Obj)) (s : Shared) (σ : St) (H : Hp) (R : It -> Hp -> Prop), Inv X pins σ H s -> wi σ H R ->
  wpAny (model X.prog X.w) X.A (eval iter X.env) (λ v s1 => wpAny (model X.prog X.w) X.A (pyIter v) (PIE X pins σ tg R) X.xe s1) X.xe s
theorem q9C {M : Model} {A : Around} {E : Value -> Shared -> Prop} {s : Shared} {tg : Expr} {it : Addr} {u : Value} {o : Obj} {n : String} {vs : Array Value} {Q : Unit -> Shared -> Prop} (ho : s.heap.get? it = some o) (hc : o.cls = .type n) (hd : o.data = .fields vs)
    (hn : ["enumerate", "zip", "dict_itemiterator", "dict_reverseitemiterator", "odict_iterator", "itertools.zip_longest", "itertools.pairwise"].contains n = false) (hQ : Q () s) : wpAny M A (letOwnedTupleGo tg (.ref it) u) Q E s := by
  unfold letOwnedTupleGo
  cases tg <;> first
    | exact wpAny_pure hQ
    | (cases u <;> first
        | exact wpAny_pure hQ
        | (refine wpAny_bind (wpAny_load ho ?_)
           rw [hc, hd]
           show wpAny M A (if (["enumerate", "zip", "dict_itemiterator", "dict_reverseitemiterator", "odict_iterator", "itertools.zip_longest", "itertools.pairwise"].contains n && vs[0]? == some (rawInt _)) = true then _ else _) Q E s
           rw [if_neg (by intro h; rw [hn, Bool.false_and] at h; cases h)]
           exact wpAny_pure hQ))
noncomputable def Itl (K : PySem.W.Frag) (a : Addr) : It :=
 ⟨λ i H => ∃ xs x, SqL K H a xs /\ xs[i]? = some x, λ i H x H' => H' = H /\ ∀ xs, SqL K H a xs -> xs[i]? = some x, λ i H => ∃ xs, SqL K H a xs /\ xs.length <= i⟩
noncomputable def Itt (K : PySem.W.Frag) (a : Addr) : It :=
 ⟨λ i H => ∃ xs x, SqT K H a xs /\ xs[i]? = some x, λ i H x H' => H' = H /\ ∀ xs, SqT K H a xs -> xs[i]? = some x, λ i H => ∃ xs, SqT K H a xs /\ xs.length <= i⟩
noncomputable def Itr (lo : Int) (n : Nat) : It := ⟨λ i _ => i < n, λ i H x H' => H' = H /\ x = .int (lo + i), λ i _ => n <= i⟩
theorem q8l {P : Program} {w : World} {K : PySem.W.Frag} {tg : Expr} (a it : Addr) : Turn P w K tg (Itl K a) [it] it (λ i h => h.IsListIter it a i) where
 mem := by simp
 obj := λ i h st b hb => by
  have e : b = it := by simpa using hb
  subst e
  obtain ⟨o, e, c, d⟩ := st
  exact ⟨o, e, λ v z => by rw [d] at z; cases z⟩
 keep := λ i h h' st k => st.at λ o e => k it (by simp) o e
 item := by
  intro X hP hw hK hc i pins s σ H E I hf st hg
  subst hP hw hK
  obtain ⟨xs, x, hq, hx⟩ := hg
  obtain ⟨its, rv, p, hz⟩ := I.list hq
  obtain ⟨u, hu, ru⟩ := rv.get hx
  obtain ⟨f0, f1, f2, f3, f4, f5⟩ := hf it (by simp)
  refine wpAny_pyNext_list_item st p.isList (x := u) (by simpa using hu) λ h' st' sb => ?_
  have I1 : Inv X pins σ H { s with heap := h' } := I.turned (t' := s.toks) (λ b o hb e => (sb.2 b hb).trans e) f0 f1 f3 f4 f5
  obtain ⟨o, e, c, d⟩ := id st'
  exact ⟨u, rfl, q9C (s := { s with heap := h' }) e c d (by decide) ⟨x, H, I1, ru, ⟨rfl, λ ys hy => by rw [I.list_inj hy hq]; exact hx⟩, st', λ b hb => (hf b hb).1⟩⟩
 done := by
  intro X hP hw hK hc i pins s σ H E I hf st hg
  subst hP hw hK
  obtain ⟨xs, hq, hx⟩ := hg
  obtain ⟨its, rv, p, hz⟩ := I.list hq
  obtain ⟨f0, f1, f2, f3, f4, f5⟩ := hf it (by simp)
  have hl := rv.length
  exact wpAny_pyNext_list_end (I.ok.hd hc) st p.isList (by simp; omega) λ h' eb => ⟨rfl, I.turned (t' := s.toks) (λ b o hb e => eb b o hb e) f0 f1 f3 f4 f5⟩
 self := λ _ _ _ _ _ st h => wpAny_pyIter_listiter st h
theorem q7o {P : Program} {w : World} {K : PySem.W.Frag} {tg : Expr} (a it : Addr) : Turn P w K tg (Itt K a) [it] it (λ i h => h.IsTupleIter it a i) where
 mem := by simp
 obj := λ i h st b hb => by
  have e : b = it := by simpa using hb
  subst e
  obtain ⟨o, e, c, d⟩ := st
  exact ⟨o, e, λ v z => by rw [d] at z; cases z⟩
 keep := λ i h h' st k => st.at λ o e => k it (by simp) o e
 item := by
  intro X hP hw hK hc i pins s σ H E I hf st hg
  subst hP hw hK
  obtain ⟨xs, x, hq, hx⟩ := hg
  obtain ⟨its, rv, p, hz⟩ := I.tuple hq
  obtain ⟨u, hu, ru⟩ := rv.get hx
  obtain ⟨f0, f1, f2, f3, f4, f5⟩ := hf it (by simp)
  refine wpAny_pyNext_tuple_item st (show s.heap.IsTuple a its.toArray from p) (x := u) (by simpa using hu) λ h' st' sb => ?_
  have I1 : Inv X pins σ H { s with heap := h' } := I.turned (t' := s.toks) (λ b o hb e => (sb.2 b hb).trans e) f0 f1 f3 f4 f5
  obtain ⟨o, e, c, d⟩ := id st'
  exact ⟨u, rfl, q9C (s := { s with heap := h' }) e c d (by decide) ⟨x, H, I1, ru, ⟨rfl, λ ys hy => by rw [I.tuple_inj hy hq]; exact hx⟩, st', λ b hb => (hf b hb).1⟩⟩
 done := by
  intro X hP hw hK hc i pins s σ H E I hf st hg
  subst hP hw hK
  obtain ⟨xs, hq, hx⟩ := hg
  obtain ⟨its, rv, p, hz⟩ := I.tuple hq
  obtain ⟨f0, f1, f2, f3, f4, f5⟩ := hf it (by simp)
  have hl := rv.length
  exact wpAny_pyNext_tuple_end (I.ok.hd hc) st (show s.heap.IsTuple a its.toArray from p) (by simp; omega) λ h' eb => ⟨rfl, I.turned (t' := s.toks) (λ b o hb e => eb b o hb e) f0 f1 f3 f4 f5⟩
 self := λ _ _ _ _ _ st h => wpAny_pyIter_tupleiter st h
theorem q7q {P : Program} {w : World} {K : PySem.W.Frag} {tg : Expr} (it : Addr) (lo : Int) (n : Nat) : Turn P w K tg (Itr lo n) [it] it (λ i h => IsRangeIter h it (lo + (i : Nat) * 1) ((n : Int) - (i : Nat)) 1) where
 mem := by simp
 obj := λ i h st b hb => by
  have e : b = it := by simpa using hb
  subst e
  exact ⟨_, st, λ v z => by
   have z' : Data.fields _ = Data.cell v := z
   cases z'⟩
 keep := λ i h h' st k => k it (by simp) _ st
 item := by
  intro X hP hw hK hc i pins s σ H E I hf st hg
  subst hP hw hK
  obtain ⟨f0, f1, f2, f3, f4, f5⟩ := hf it (by simp)
  have W := Walks.range (prog := X.prog) (w := X.w) (I.ok.hd hc) it lo 1 n
  refine W.item i s _ _ hg st λ v h' tk hv st' kk => ?_
  obtain ⟨t, rfl⟩ := hv
  have I1 : Inv X pins σ H { s with heap := h', toks := tk } := I.turned (λ b o hb e => kk b o (by simpa using hb) e) f0 f1 f3 f4 f5
  refine ⟨_, rfl, q9C (s := { s with heap := h', toks := tk }) (n := "range_iterator") st' rfl rfl (by decide) ⟨.int (lo + i), H, I1, ⟨t, ?_⟩, ⟨rfl, rfl⟩, st', λ b hb => (hf b hb).1⟩⟩
  rw [Int.mul_one]
 done := by
  intro X hP hw hK hc i pins s σ H E I hf st hg
  subst hP hw hK
  obtain ⟨f0, f1, f2, f3, f4, f5⟩ := hf it (by simp)
  exact wpAny_pyNext_range_end (I.ok.hd hc) st (by have : n <= i := hg; omega) λ h' eb => ⟨rfl, I.turned (t' := s.toks) (λ b o hb e => eb b o hb e) f0 f1 f3 f4 f5⟩
 self := λ _ _ _ _ _ st h => wpAny_pyIter_rangeiter st h
end L2
namespace L2
open PySem PySem.Spec PyProof.Rows
section
variable {X : Cx} {tg : Expr}
noncomputable def z5n (K : PySem.W.Frag) (tl : TE) : TI := λ σ H R => tl σ H λ x H1 => ∃ a, x = .ref a /\ (∃ xs, SqL K H1 a xs) /\ R (Itl K a) H1
noncomputable def iTup (K : PySem.W.Frag) (tl : TE) : TI := λ σ H R => tl σ H λ x H1 => ∃ a, x = .ref a /\ (∃ xs, SqT K H1 a xs) /\ R (Itt K a) H1
theorem q6b {l : Expr} {tl : TE} (hl : PE X l tl) : PI X tg l (z5n X.K tl) := by
 intro pins s σ H R I h
 refine thn (hl pins s σ H _ I h) λ v s1 ⟨x, H1, I1, r1, q1⟩ => ?_
 obtain ⟨a, e, ⟨xs, hq⟩, q⟩ := q1
 subst e
 cases r1
 obtain ⟨its, rv, p, hz⟩ := I1.list hq
 refine wpAny_pyIter_list p.isList ?_
 refine ⟨s1.heap.objs.size, [s1.heap.objs.size], _, _, H1, rfl, I1.kept (t' := s1.toks) λ b o e => Heap.get?_push_of_some _ e, q8l a _, ⟨_, Heap.get?_push_size _ rfl, rfl, rfl⟩, λ b hb => ?_, q⟩
 have e : b = s1.heap.objs.size := by simpa using hb
 subst e
 exact I1.fpOk (Nat.le_refl _) (I1.hok.fresh (Nat.le_refl _))
theorem z3B {l : Expr} {tl : TE} (hl : PE X l tl) : PI X tg l (iTup X.K tl) := by
 intro pins s σ H R I h
 refine thn (hl pins s σ H _ I h) λ v s1 ⟨x, H1, I1, r1, q1⟩ => ?_
 obtain ⟨a, e, ⟨xs, hq⟩, q⟩ := q1
 subst e
 cases r1
 obtain ⟨its, rv, p, hz⟩ := I1.tuple hq
 refine wpAny_pyIter_tuple (show s1.heap.IsTuple a its.toArray from p) ?_
 refine ⟨s1.heap.objs.size, [s1.heap.objs.size], _, _, H1, rfl, I1.kept (t' := s1.toks) λ b o e => Heap.get?_push_of_some _ e, q7o a _, ⟨_, Heap.get?_push_size _ rfl, rfl, rfl⟩, λ b hb => ?_, q⟩
 have e : b = s1.heap.objs.size := by simpa using hb
 subst e
 exact I1.fpOk (Nat.le_refl _) (I1.hok.fresh (Nat.le_refl _))
theorem q6O {pins : List (Addr × Obj)} {σ : St} {H : Hp} {s : Shared} {R : It -> Hp -> Prop} {E : Value -> Shared -> Prop} {lo hi : Int} {t u v : Tok} {tk : Nat} (I : Inv X pins σ H s) (h1 : -(2 ^ 62) <= lo) (h2 : lo < 2 ^ 62) (h3 : -(2 ^ 62) <= hi) (h4 : hi < 2 ^ 62)
  (q : R (Itr lo (hi - lo).toNat) H) : wpAny (model X.prog X.w) X.A (pyIter (.ref s.heap.objs.size)) (PIE X pins σ tg R) E { s with heap := s.heap.push { cls := .type "range", data := .fields #[.int lo t, .int hi u, .int 1 v] }, toks := tk } := by
 refine wpAny_pyIter_range (IsRange.new ..) (small_one h1 h2 h3 h4) ?_
 have I1 : Inv X pins σ H { s with heap := s.heap.push { cls := .type "range", data := .fields #[.int lo t, .int hi u, .int 1 v] }, toks := tk } := I.kept λ b o e => Heap.get?_push_of_some _ e
 refine ⟨(s.heap.push { cls := .type "range", data := .fields #[.int lo t, .int hi u, .int 1 v] }).objs.size, [(s.heap.push { cls := .type "range", data := .fields #[.int lo t, .int hi u, .int 1 v] }).objs.size], _, _, H, rfl,
  I1.kept (t' := tk) λ b o e => Heap.get?_push_of_some _ e, q7q _ lo (hi - lo).toNat, ?_, λ b hb => ?_, q⟩
 ·have e1 : lo + ((0 : Nat) : Int) * 1 = lo := by simp
  have e2 : (((hi - lo).toNat : Nat) : Int) - ((0 : Nat) : Int) = Builtin.Range.rangeSize lo hi 1 := by rw [rangeSize_one]; split <;> omega
  show IsRangeIter _ _ (lo + ((0 : Nat) : Int) * 1) ((((hi - lo).toNat : Nat) : Int) - ((0 : Nat) : Int)) 1
  rw [e1, e2]
  exact Heap.get?_push_size _ rfl
 ·have e : b = (s.heap.push { cls := .type "range", data := .fields #[.int lo t, .int hi u, .int 1 v] }).objs.size := by simpa using hb
  subst e
  exact I1.fpOk (Nat.le_refl _) (I1.hok.fresh (Nat.le_refl _))
noncomputable def z4U (ta : TA) : TI := λ σ H R => ta σ H λ vs H1 => ∃ j : Int, vs = [.int j] /\ -(2 ^ 62) <= j /\ j < 2 ^ 62 /\ R (Itr 0 j.toNat) H1
noncomputable def z5h (ta : TA) : TI := λ σ H R => ta σ H λ vs H1 => ∃ i j : Int, vs = [.int i, .int j] /\ (-(2 ^ 62) <= i /\ i < 2 ^ 62 /\ -(2 ^ 62) <= j /\ j < 2 ^ 62) /\ R (Itr i (j - i).toNat) H1
theorem q8x {a : Expr} {ta : TA} {p pos : Pos} (hg : Gl X "range") (hm : X.mg "range" = none) (ha : PA X [a] ta) (hs : starEach [a] X.env = [(false, eval a X.env)] := by rfl) : PI X tg (.Call (.Name "range" p) [a] [] pos) (z4U ta) := by
 intro pins s σ H R I h
 refine Call_ (q4p I hg hm boot_range (PyProof.Rows.callWith_type1 (thn (ha pos pins s σ H _ I h) λ us s1 ⟨vs, H1, I1, r1, q1⟩ => ?_) hs rfl))
 obtain ⟨j, e, q1, q2, q⟩ := q1
 subst e
 cases r1 with
 | cons r rr =>
  cases rr
  obtain ⟨t, rfl⟩ := r
  exact call_range_1 (q6O I1 (by omega) (by omega) q1 q2 (by simpa using q))
theorem q8f {a b : Expr} {ta : TA} {p pos : Pos} (hg : Gl X "range") (hm : X.mg "range" = none) (ha : PA X [a, b] ta) (hs : starEach [a, b] X.env = [(false, eval a X.env), (false, eval b X.env)] := by rfl) (hs2 : starEach [b] X.env = [(false, eval b X.env)] := by rfl) :
  PI X tg (.Call (.Name "range" p) [a, b] [] pos) (z5h ta) := by
 intro pins s σ H R I h
 refine Call_ (q4p I hg hm boot_range (PyProof.Rows.callWith_type1 (thn (ha pos pins s σ H _ I h) λ us s1 ⟨vs, H1, I1, r1, q1⟩ => ?_) (by rw [hs, hs2]) (by rw [hs2]; rfl)))
 obtain ⟨i, j, e, ⟨q1, q2, q3, q4⟩, q⟩ := q1
 subst e
 cases r1 with
 | cons r rr =>
  cases rr with
  | cons r' rr =>
   cases rr
   obtain ⟨t, rfl⟩ := r
   obtain ⟨t', rfl⟩ := r'
   exact call_range_2 (q6O I1 q1 q2 q3 q4 q)
noncomputable def tFor (wi : TI) (g : TG) (tb : TS) : TS := λ D σ H => wi σ H λ J H1 => ∃ W : Nat -> Nat -> St -> Hp -> Prop, (∃ m, W 0 m σ H1) /\ ∀ i m σ H, W i m σ H ->
 (J.stop i H /\ D.nx σ H) \/ (J.go i H /\ ∃ N : St -> Hp -> Prop, (∀ σ' H', N σ' H' -> ∃ m', m' < m /\ W (i + 1) m' σ' H') /\ ∀ x H', J.yld i H x H' -> g x σ H' λ σ2 H2 => tb { D with nx := N, ct := N, bk := D.nx } σ2 H2)
noncomputable def q5K (fp : List Addr) (h : Heap) : List (Addr × Obj) := fp.filterMap λ b => (h.get? b).map λ o => (b, o)
theorem q2u {fp : List Addr} {h : Heap} {b : Addr} {o : Obj} (hb : b ∈ fp) (e : h.get? b = some o) : (b, o) ∈ q5K fp h := List.mem_filterMap.mpr ⟨b, hb, by rw [e]; rfl⟩
theorem q8n {fp : List Addr} {h : Heap} {p : Addr × Obj} (hp : p ∈ q5K fp h) : p.1 ∈ fp /\ h.get? p.1 = some p.2 := by
 obtain ⟨b, hb, e⟩ := List.mem_filterMap.mp hp
 cases q : h.get? b with
 | none => rw [q] at e; cases e
 | some o =>
  rw [q] at e
  have e' : (b, o) = p := Option.some.inj e
  subst e'
  exact ⟨hb, q⟩
theorem Inv.pinned {pins : List (Addr × Obj)} {σ : St} {H : Hp} {s : Shared} {fp : List Addr} (I : Inv X pins σ H s) (hf : ∀ b ∈ fp, FpOk X pins H b) (ho : ∀ b ∈ fp, ∃ o, s.heap.get? b = some o /\ ∀ v, o.data ≠ .cell v) : Inv X (pins ++ q5K fp s.heap) σ H s :=
 I.pins_of λ p hp => (List.mem_append.mp hp).elim (λ z => I.pin p (List.mem_append_right _ z)) λ z => by
  obtain ⟨hb, e⟩ := q8n z
  obtain ⟨f0, f1, f2, _⟩ := hf p.1 hb
  obtain ⟨o, e', d⟩ := ho p.1 hb
  rw [e] at e'; cases e'
  exact ⟨e, f0, f1, f2, d⟩
theorem Inv.unpinned {pins pl : List (Addr × Obj)} {σ : St} {H : Hp} {s : Shared} (I : Inv X (pins ++ pl) σ H s) : Inv X pins σ H s := I.pins_of λ p hp => I.pin p (List.mem_append_right _ (List.mem_append_left _ hp))
theorem z0y {iter : Expr} {body : List Stmt} {wi : TI} {g : TG} {tb : TS} {pos : Pos} (hp : PassesOwn (model X.prog X.w) X.A X.env X.xe) (hc : X.calm = true) (hi : PI X tg iter wi) (hg : PG X tg g) (hb : PSs X body tb)
  (hs : ∀ x, foldedSetIterable iter X.env x = pure x := by intro _; rfl) : PS X (.For tg iter body [] pos) (tFor wi g tb) := by
 intro pins s σ H D I h
 refine wpAny_For (thn (hi pins s σ H _ I h) λ v s1 h1 => thn h1 λ itv s2 h2 => ?_) hs
 obtain ⟨it, fp, tn, J, H2, e, I2, T, st2, f2, W, ⟨m0, w0⟩, turn⟩ := h2
 subst e
 have stat : ∀ {H' : Hp}, (∀ b ∈ fp, H' b = none) -> ∀ b ∈ fp, FpOk X pins H' b := λ hn b hb => ⟨hn b hb, (f2 b hb).2⟩
 refine codeAny_forLoop_any (λ n s' => ∃ i σ' H', Inv X pins σ' H' s' /\ tn i s'.heap /\ (∀ b ∈ fp, H' b = none) /\ W i n σ' H') ?_ m0 ⟨0, σ, H2, I2, st2, λ b hb => (f2 b hb).1, w0⟩
 rintro n s3 ⟨i, σ3, H3, I3, st3, fr3, w3⟩
 rcases turn i n σ3 H3 w3 with ⟨stop, qn⟩ | ⟨go, N, hN, step⟩
 ·refine wpAny_passesOwn hp (thn (T.done X rfl rfl rfl hc i pins s3 σ3 H3 X.xe I3 (stat fr3) st3 stop) λ r s4 ⟨hr, I4⟩ => ?_)
  subst hr
  exact wpAny_execs_nil ⟨σ3, H3, I4, qn⟩
 ·refine wpAny_passesOwn hp (thn (T.item X rfl rfl rfl hc i pins s3 σ3 H3 X.xe I3 (stat fr3) st3 go) λ r s4 ⟨u, hr, h4⟩ => ?_)
  subst hr
  refine wpAny_passesOwn hp (thn h4 λ _ s5 ⟨x, H5, I5, r5, y5, st5, fr5⟩ => ?_)
  have I5' := I5.pinned (stat fr5) (T.obj _ _ st5)
  refine wpAny_passesOwn hp (thn (hg _ s5 σ3 H5 x u _ I5' r5 (step x H5 y5)) λ _ s6 ⟨σ6, H6, I6, q6⟩ => ?_)
  refine wpAny_passesOwn hp (thn (hb _ s6 σ6 H6 _ I6 q6) λ f s7 q7 => ?_)
  have again : ∀ {σ7 : St} {H7 : Hp}, Inv X (pins ++ q5K fp s5.heap) σ7 H7 s7 -> N σ7 H7 -> ∃ m, m < n /\ ∃ i σ' H', Inv X pins σ' H' s7 /\ tn i s7.heap /\ (∀ b ∈ fp, H' b = none) /\ W i m σ' H' := λ {σ7 H7} I7 n7 => by
   obtain ⟨m', hm, w7⟩ := hN σ7 H7 n7
   refine ⟨m', hm, i + 1, σ7, H7, I7.unpinned, T.keep _ _ _ st5 λ b hb o e => (I7.pin (b, o) (List.mem_append_right _ (List.mem_append_right _ (q2u hb e)))).1, λ b hb => ?_, w7⟩
   obtain ⟨o, e, d⟩ := T.obj _ _ st5 b hb
   exact (I7.pin (b, o) (List.mem_append_right _ (List.mem_append_right _ (q2u hb e)))).2.1
  cases f with
  | next => obtain ⟨σ7, H7, I7, n7⟩ := q7; exact again I7 n7
  | cont => obtain ⟨σ7, H7, I7, n7⟩ := q7; exact again I7 n7
  | brk => obtain ⟨σ7, H7, I7, q7⟩ := q7; exact ⟨σ7, H7, I7.unpinned, q7⟩
  | ret v => obtain ⟨x7, σ7, H7, I7, r7, q7⟩ := q7; exact ⟨x7, σ7, H7, I7.unpinned, r7, q7⟩
end
end L2
namespace L2
open PySem PySem.Spec PyProof.Rows
noncomputable abbrev R2 := V -> V -> Hp -> VK -> Prop
noncomputable def OpR (X : Cx) (f : Value -> Value -> Sem Value) (r : R2) : Prop :=
 ∀ (pins : List (Addr × Obj)) (s : Shared) (σ : St) (H : Hp) (x y : V) (v u : Value) (Q : VK), Inv X pins σ H s -> RelV x v -> RelV y u -> r x y H Q ->
  wpAny (model X.prog X.w) X.A (f v u) (EP X pins σ Q) X.xe s
noncomputable def UnR (X : Cx) (f : Value -> Sem Value) (r : V -> Hp -> VK -> Prop) : Prop :=
 ∀ (pins : List (Addr × Obj)) (s : Shared) (σ : St) (H : Hp) (x : V) (v : Value) (Q : VK), Inv X pins σ H s -> RelV x v -> r x H Q ->
  wpAny (model X.prog X.w) X.A (f v) (EP X pins σ Q) X.xe s
noncomputable def q1J (X : Cx) (f : Value) (r : List V -> Hp -> VK -> Prop) : Prop :=
 ∀ (pins : List (Addr × Obj)) (s : Shared) (σ : St) (H : Hp) (xs : List V) (us : List Value) (Q : VK), Inv X pins σ H s -> Vals xs us -> r xs H Q ->
  wpAny (model X.prog X.w) X.A (call f us) (EP X pins σ Q) X.xe s
noncomputable def TruR (X : Cx) (r : V -> Hp -> (Bool -> Hp -> Prop) -> Prop) : Prop :=
 ∀ (pins : List (Addr × Obj)) (s : Shared) (σ : St) (H : Hp) (x : V) (v : Value) (Q : Bool -> Hp -> Prop), Inv X pins σ H s -> RelV x v -> r x H Q ->
  wpAny (model X.prog X.w) X.A (truthy v) (TP X pins σ Q) X.xe s
noncomputable def tOp (r : R2) (ta tb : TE) : TE := λ σ H Q => ta σ H λ x H1 => tb σ H1 λ y H2 => r x y H2 Q
noncomputable def tUn (r : V -> Hp -> VK -> Prop) (ta : TE) : TE := λ σ H Q => ta σ H λ x H1 => r x H1 Q
noncomputable def rI (C : Int -> Int -> Prop) (g : Int -> Int -> V) : R2 := λ x y H Q => ∃ i j, x = .int i /\ y = .int j /\ C i j /\ Q (g i j) H
noncomputable def rI0 (g : Int -> Int -> V) : R2 := λ x y H Q => ∃ i j, x = .int i /\ y = .int j /\ Q (g i j) H
noncomputable def rU (g : Int -> V) : V -> Hp -> VK -> Prop := λ x H Q => ∃ i, x = .int i /\ Q (g i) H
section
variable {X : Cx} {a b c : Expr} {ta tb tc : TE} {pos : Pos}
theorem binT (ha : PE X a ta) (hb : PE X b tb) {pins : List (Addr × Obj)} {s : Shared} {σ : St} {H : Hp} {R : V -> V -> Hp -> Prop} (I : Inv X pins σ H s)
  (h : ta σ H λ x H1 => tb σ H1 λ y H2 => R x y H2) {Q : Value -> Shared -> Prop} {f : Value -> Value -> Sem Value}
  (hf : ∀ v u s2 x y H2, Inv X pins σ H2 s2 -> RelV x v -> RelV y u -> R x y H2 -> wpAny (model X.prog X.w) X.A (f v u) Q X.xe s2) :
  wpAny (model X.prog X.w) X.A (eval a X.env) (λ v s₁ => wpAny (model X.prog X.w) X.A (eval b X.env) (λ u s₂ => wpAny (model X.prog X.w) X.A (f v u) Q X.xe s₂) X.xe s₁) X.xe s := by
 refine thn (ha pins s σ H _ I h) λ v s1 ⟨x, H1, I1, r1, q1⟩ => ?_
 refine thn (hb pins s1 σ H1 _ I1 q1) λ u s2 ⟨y, H2, I2, r2, q2⟩ => ?_
 exact hf v u s2 x y H2 I2 r1 r2 q2
theorem z5T {op : Operator} {r : R2} (ho : OpR X (binaryOp op) r) (ha : PE X a ta) (hb : PE X b tb) : PE X (.BinOp a op b pos) (tOp r ta tb) := by
 intro pins s σ H Q I h
 exact wpAny_BinOp (binT ha hb I h λ v u s2 x y H2 I2 rx ry q => ho pins s2 σ H2 x y v u Q I2 rx ry q)
theorem z4W {op : UnaryOp} {r : V -> Hp -> VK -> Prop} (ho : UnR X (unaryOp op) r) (ha : PE X a ta) : PE X (.UnaryOp op a pos) (tUn r ta) := by
 intro pins s σ H Q I h
 exact UnaryOp_ (thn (ha pins s σ H _ I h) λ v s1 ⟨x, H1, I1, r1, q1⟩ => ho pins s1 σ H1 x v Q I1 r1 q1)
theorem opI {f : Value -> Value -> Sem Value} {C : Int -> Int -> Prop} {g : Int -> Int -> Int}
  (rule : ∀ (i j : Int) (t u : Tok) (s : Shared) (Q : Value -> Shared -> Prop) (E : Value -> Shared -> Prop), C i j -> Q (.int (g i j) s.toks) { s with toks := s.toks + 1 } -> wpAny (model X.prog X.w) X.A (f (.int i t) (.int j u)) Q E s) :
  OpR X f (rI C λ i j => .int (g i j)) := by
 intro pins s σ H x y v u Q I rx ry h
 obtain ⟨i, j, rfl, rfl, hc, q⟩ := h
 obtain ⟨t, rfl⟩ := rx
 obtain ⟨t', rfl⟩ := ry
 exact rule i j t t' s _ _ hc ⟨.int (g i j), H, I.tok _, ⟨_, rfl⟩, q⟩
theorem opI0 {f : Value -> Value -> Sem Value} {g : Int -> Int -> Int}
  (rule : ∀ (i j : Int) (t u : Tok) (s : Shared) (Q : Value -> Shared -> Prop) (E : Value -> Shared -> Prop), Q (.int (g i j) s.toks) { s with toks := s.toks + 1 } -> wpAny (model X.prog X.w) X.A (f (.int i t) (.int j u)) Q E s) :
  OpR X f (rI0 λ i j => .int (g i j)) := by
 intro pins s σ H x y v u Q I rx ry h
 obtain ⟨i, j, rfl, rfl, q⟩ := h
 obtain ⟨t, rfl⟩ := rx
 obtain ⟨t', rfl⟩ := ry
 exact rule i j t t' s _ _ ⟨.int (g i j), H, I.tok _, ⟨_, rfl⟩, q⟩
theorem opB0 {f : Value -> Value -> Sem Value} {g : Int -> Int -> Bool}
  (rule : ∀ (i j : Int) (t u : Tok) (s : Shared) (Q : Value -> Shared -> Prop) (E : Value -> Shared -> Prop), Q (.bool (g i j)) s -> wpAny (model X.prog X.w) X.A (f (.int i t) (.int j u)) Q E s) :
  OpR X f (rI0 λ i j => .bl (g i j)) := by
 intro pins s σ H x y v u Q I rx ry h
 obtain ⟨i, j, rfl, rfl, q⟩ := h
 obtain ⟨t, rfl⟩ := rx
 obtain ⟨t', rfl⟩ := ry
 exact rule i j t t' s _ _ ⟨.bl (g i j), H, I, rfl, q⟩
noncomputable def CMul (i j : Int) : Prop := (-(2 ^ 64) < i /\ i < 2 ^ 64) \/ (-(2 ^ 64) < j /\ j < 2 ^ 64)
theorem CMul.ok {i j : Int} (h : CMul i j) : IntMulOk i j := by
 rcases h with ⟨h1, h2⟩ | ⟨h1, h2⟩
 ·exact .of_left (intBits_le_64 h1 h2)
 ·exact .of_right (intBits_le_64 h1 h2)
theorem q7x (k : Nat) : (0 : Int) <= 2 ^ k := by
 rw [two_pow_cast]
 exact Int.natCast_nonneg _
theorem z4a : OpR X (binaryOp .Add) (rI0 λ i j => .int (i + j)) := opI0 λ _ _ _ _ _ _ _ q => add_int q
theorem z3l : OpR X (binaryOp .Sub) (rI0 λ i j => .int (i - j)) := opI0 λ _ _ _ _ _ _ _ q => sub_int q
theorem z3t : OpR X (binaryOp .Mod) (rI (λ _ j => 0 < j) λ i j => .int (i % j)) := opI λ i j _ _ _ _ _ hc q => by
 have h1 : (0 : Int) < j := hc
 exact mod_int' (by omega) (by rw [Int.fmod_eq_emod_of_nonneg i (by omega)]; exact q)
theorem z4z : OpR X (binaryOp .RShift) (rI (λ _ j => 0 <= j) λ i j => .int (i / 2 ^ j.toNat)) := opI λ i j _ _ _ _ _ hc q =>
 rshift_int hc (by rw [Int.fdiv_eq_ediv_of_nonneg i (q7x _)]; exact q)
theorem z4G : OpR X (binaryOp .BitAnd) (rI0 λ i j => .int (Builtin.bitAnd i j)) := opI0 λ _ _ _ _ _ _ _ q => and_int q
theorem unI {f : Value -> Sem Value} {g : Int -> Int}
  (rule : ∀ (i : Int) (t : Tok) (s : Shared) (Q : Value -> Shared -> Prop) (E : Value -> Shared -> Prop), Q (.int (g i) s.toks) { s with toks := s.toks + 1 } -> wpAny (model X.prog X.w) X.A (f (.int i t)) Q E s) :
  UnR X f (rU λ i => .int (g i)) := by
 intro pins s σ H x v Q I rx h
 obtain ⟨i, rfl, q⟩ := h
 obtain ⟨t, rfl⟩ := rx
 exact rule i t s _ _ ⟨.int (g i), H, I.tok _, ⟨_, rfl⟩, q⟩
theorem z3g : UnR X (unaryOp .USub) (rU λ i => .int (-i)) := unI λ _ _ _ _ _ q => neg_int q
end
section
variable {X : Cx} {a b c : Expr} {ta tb tc : TE} {pos : Pos}
theorem z4J {pins : List (Addr × Obj)} {σ : St} {H : Hp} {s : Shared} {Q : VK} {k k' : Bool} (I : Inv X pins σ H s) (q : Q (.bl k) H) (e : k = k') : EP X pins σ Q (.bool k') s := by
 subst e
 exact ⟨.bl k, H, I, rfl, q⟩
theorem z5m : OpR X (compareOp .Lt) (rI0 λ i j => .bl (decide (i < j))) := opB0 λ _ _ _ _ _ _ _ q => lt_int q
theorem z6a : OpR X (compareOp .LtE) (rI0 λ i j => .bl (decide (i <= j))) := opB0 λ _ _ _ _ _ _ _ q => le_int q
theorem z5N : OpR X (compareOp .Gt) (rI0 λ i j => .bl (decide (j < i))) := opB0 λ _ _ _ _ _ _ _ q => gt_int q
theorem z3K : OpR X (compareOp .Is) (λ x y H Q => y = .non /\ Q (.bl (decide (x = .non))) H) := by
 intro pins s σ H x y v u Q I rx ry h
 obtain ⟨rfl, q⟩ := h
 cases ry
 refine is_none_gen (z4J I q ?_)
 cases x <;> first
  | (cases rx; rfl)
  | (obtain ⟨t, rfl⟩ := rx; rfl)
theorem OpR.or {f : Value -> Value -> Sem Value} {r r' : R2} (h : OpR X f r) (h' : OpR X f r') : OpR X f (λ x y H Q => r x y H Q \/ r' x y H Q) := by
 intro pins s σ H x y v u Q I rx ry q
 rcases q with q | q
 ·exact h pins s σ H x y v u Q I rx ry q
 ·exact h' pins s σ H x y v u Q I rx ry q
theorem z6d (b : Expr) {op : CmpOp} (h : op ≠ .In := by decide) (h2 : op ≠ .NotIn := by decide) : behindInMarks op b = false := by
 have e1 : (op == CmpOp.In) = false := by cases op <;> first | rfl | exact absurd rfl h
 have e2 : (op == CmpOp.NotIn) = false := by cases op <;> first | rfl | exact absurd rfl h2
 cases b <;> simp [behindInMarks, e1, e2]
theorem z1X {op : CmpOp} {r : R2} (ho : OpR X (compareOp op) r) (ha : PE X a ta) (hb : PE X b tb) (hm : behindInMarks op b = false) : PE X (.Compare a [op] [b] pos) (tOp r ta tb) := by
 intro pins s σ H Q I h
 exact wpAny_Compare1 (binT ha hb I h λ v u s2 x y H2 I2 rx ry q => ho pins s2 σ H2 x y v u Q I2 rx ry q) hm
noncomputable def z3Q (t : TE) : TT := λ σ H Q => t σ H λ x H' => ∃ k, x = .bl k /\ Q k H'
theorem z2j {op : CmpOp} {r : R2} (ho : OpR X (compareOp op) r) (ha : PE X a ta) (hb : PE X b tb) (hm : behindInMarks op b = false) : PT X (.Compare a [op] [b] pos) (z3Q (tOp r ta tb)) := by
 intro pins s σ H Q I h
 refine wpAny_isTrue_Compare1 (thn (ha pins s σ H _ I h) λ v s1 ⟨x, H1, I1, r1, q1⟩ => thn (hb pins s1 σ H1 _ I1 q1) λ u s2 ⟨y, H2, I2, r2, q2⟩ =>
  thn (ho pins s2 σ H2 x y v u _ I2 r1 r2 q2) λ c s3 ⟨z, H3, I3, r3, k, e, q3⟩ => ?_) hm
 subst e
 cases r3
 exact wpAny_truthy_bool ⟨H3, I3, q3⟩
noncomputable def q9m (r r' : R2) (ta tb tc : TE) : TE := λ σ H Q => ta σ H λ x H1 => tb σ H1 λ y H2 => r x y H2 λ z H3 => ∃ k, z = .bl k /\
 (if k = true then tc σ H3 λ w' H4 => r' y w' H4 Q else Q (.bl false) H3)
theorem q9P {op op' : CmpOp} {r r' : R2} (ho : OpR X (compareOp op) r) (ho' : OpR X (compareOp op') r') (ha : PE X a ta) (hb : PE X b tb) (hc : PE X c tc)
  (hm : lastMarks [op, op'] [b, c] = false := by with_unfolding_all rfl) : PE X (.Compare a [op, op'] [b, c] pos) (q9m r r' ta tb tc) := by
 intro pins s σ H Q I h
 refine Compare_chain (thn (ha pins s σ H _ I h) λ v s1 ⟨x, H1, I1, r1, q1⟩ => chain_link (thn (hb pins s1 σ H1 _ I1 q1) λ u s2 ⟨y, H2, I2, r2, q2⟩ =>
  thn (ho pins s2 σ H2 x y v u _ I2 r1 r2 q2) λ d s3 ⟨z, H3, I3, r3, k, e, q3⟩ => ?_)) hm
 subst e
 cases r3
 refine wpAny_truthy_bool ?_
 cases k with
 | false => exact ite_ff ⟨.bl false, H3, I3, rfl, q3⟩
 | true => exact ite_tt (chain_last (thn (hc pins s3 σ H3 _ I3 q3) λ w' s4 ⟨z', H4, I4, r4, q4⟩ => ho' pins s4 σ H4 y z' u w' Q I4 r2 r4 q4))
theorem q9G {op op' : CmpOp} {r r' : R2} (ho : OpR X (compareOp op) r) (ho' : OpR X (compareOp op') r') (ha : PE X a ta) (hb : PE X b tb) (hc : PE X c tc)
  (hm : lastMarks [op, op'] [b, c] = false := by with_unfolding_all rfl) : PT X (.Compare a [op, op'] [b, c] pos) (z3Q (q9m r r' ta tb tc)) := by
 intro pins s σ H Q I h
 refine isTrue_chain (thn (ha pins s σ H _ I h) λ v s1 ⟨x, H1, I1, r1, q1⟩ => test_link (thn (hb pins s1 σ H1 _ I1 q1) λ u s2 ⟨y, H2, I2, r2, q2⟩ =>
  thn (ho pins s2 σ H2 x y v u _ I2 r1 r2 q2) λ d s3 ⟨z, H3, I3, r3, k, e, q3⟩ => ?_)) hm
 subst e
 cases r3
 refine wpAny_truthy_bool ?_
 cases k with
 | false =>
  obtain ⟨k', e', q'⟩ := q3
  cases e'
  exact ite_ff ⟨H3, I3, q'⟩
 | true =>
  refine ite_tt (test_last (thn (hc pins s3 σ H3 _ I3 q3) λ w' s4 ⟨z', H4, I4, r4, q4⟩ => thn (ho' pins s4 σ H4 y z' u w' _ I4 r2 r4 q4) λ d' s5 ⟨z2, H5, I5, r5, k2, e2, q5⟩ => ?_))
  subst e2
  cases r5
  exact wpAny_truthy_bool ⟨H5, I5, q5⟩
noncomputable def TruV (K : PySem.W.Frag) (x : V) (H : Hp) (k : Bool) : Prop :=
 match x with
 | .non => k = false
 | .bl b => k = b
 | .int i => k = (i != 0)
 | .str y => y.length <= sizeLine /\ k = ((y.length : Int) != 0)
 | .byt y => y.size <= sizeLine /\ k = ((y.size : Int) != 0)
 | .ref p => (∃ xs, SqL K H p xs /\ k = !xs.isEmpty) \/ (∃ xs, SqT K H p xs /\ k = !xs.isEmpty) \/ ∃ kvs, H p = some (.dK kvs) /\ k = !kvs.isEmpty
 | _ => False
theorem q7C {κ : Type} {kvs : List (κ × V)} {vs : List (κ × Value)} (r : KV kvs vs) : (!vs.isEmpty) = !kvs.isEmpty := by
 cases r <;> rfl
theorem q4l {xs : List V} {its : List Value} (r : Vals xs its) : (!its.toArray.isEmpty) = !xs.isEmpty := by
 cases r <;> simp
theorem q3W : (sizeLine : Nat) < 2 ^ 63 := by rw [sizeLine_eq]; decide
theorem q6x : TruR X (λ x H Q => ∃ k, TruV X.K x H k /\ Q k H) := by
 intro pins s σ H x v Q I rx h
 obtain ⟨k, e, q⟩ := h
 have hl := q3W
 have hs : sizeLine = 16777216 := sizeLine_eq
 cases x with
 | non =>
  cases rx
  have e' : k = false := e
  subst e'
  exact truthy_none ⟨H, I, q⟩
 | bl b =>
  cases rx
  have e' : k = b := e
  subst e'
  exact wpAny_truthy_bool ⟨H, I, q⟩
 | int i =>
  obtain ⟨t, rfl⟩ := rx
  have e' : k = (i != 0) := e
  subst e'
  exact PySem.P.truthy_int ⟨H, I, q⟩
 | str y =>
  obtain ⟨t, rfl⟩ := rx
  obtain ⟨hy, e'⟩ : y.length <= sizeLine /\ k = ((y.length : Int) != 0) := e
  subst e'
  exact PySem.P.truthy_str (by omega) ⟨H, I.tok _, q⟩
 | byt y =>
  obtain ⟨t, rfl⟩ := rx
  obtain ⟨hy, e'⟩ : y.size <= sizeLine /\ k = ((y.size : Int) != 0) := e
  subst e'
  exact PySem.W.truthy_bytes (by omega) ⟨H, I.tok _, q⟩
 | ref p =>
  cases rx
  have e' : (∃ xs, SqL X.K H p xs /\ k = !xs.isEmpty) \/ (∃ xs, SqT X.K H p xs /\ k = !xs.isEmpty) \/ ∃ kvs, H p = some (.dK kvs) /\ k = !kvs.isEmpty := e
  rcases e' with ⟨xs, hx, e'⟩ | ⟨xs, hx, e'⟩ | ⟨kvs, hx, e'⟩
  ·subst e'
   obtain ⟨its, r, pl, hz⟩ := I.list hx
   have hlen := r.length
   exact wpAny_truthy_list pl.isList (by simp only [List.size_toArray]; omega) ⟨H, I.tok _, by rw [q4l r]; exact q⟩
  ·subst e'
   obtain ⟨its, r, pl, hz⟩ := I.tuple hx
   have hlen := r.length
   exact truthy_tuple pl (by simp only [List.size_toArray]; omega) ⟨H, I.tok _, by rw [q4l r]; exact q⟩
  ·subst e'
   obtain ⟨hz, hS, vs, r, m⟩ : kvs.length <= sizeLine /\ (p == sysModules) = false /\ ∃ vs, KV kvs vs /\ s.heap.DictOf (q6q X.prog X.w) p vs := I.hok p _ hx
   have hlen : kvs.length = vs.length := Paired.length r
   exact wpAny_truthy_dict hS m (by omega) ⟨H, I.tok _, by rw [q7C r]; exact q⟩
 | _ => exact (show False from e).elim
theorem q6P (ha : PE X a ta) (he : ∀ whole, isTrue a X.env whole = (do let v ← whole; standAt a.pos; holding [v] (truthy v))) :
  PT X a (λ σ H Q => ta σ H λ x H' => ∃ k, TruV X.K x H' k /\ Q k H') := by
 intro pins s σ H Q I h
 exact isTrue_plain (thn (ha pins s σ H _ I h) λ v s1 ⟨x, H1, I1, r1, q1⟩ => q6x pins s1 σ H1 x v Q I1 r1 q1) (he _)
theorem q4A {x : V} {us : List Value} (r : Vals [x] us) : ∃ u, us = [u] /\ RelV x u := by
 cases r with
 | cons r1 r2 => cases r2; exact ⟨_, rfl, r1⟩
theorem q7v {x y : V} {us : List Value} (r : Vals [x, y] us) : ∃ u w', us = [u, w'] /\ RelV x u /\ RelV y w' := by
 cases r with
 | cons r1 r2 =>
  cases r2 with
  | cons r3 r4 => cases r4; exact ⟨_, _, rfl, r1, r3⟩
theorem q9Q : q1J X (.builtin "abs") (λ xs H Q => ∃ i, xs = [.int i] /\ Q (.int (if i < 0 then -i else i)) H) := by
 intro pins s σ H xs us Q I r h
 obtain ⟨i, rfl, q⟩ := h
 obtain ⟨u, rfl, t, rfl⟩ := q4A r
 exact call_abs_int λ u tk => ⟨.int (if i < 0 then -i else i), H, I.tok _, ⟨_, rfl⟩, q⟩
theorem q8q (hc : X.calm = true) : q1J X (.builtin "min") (λ xs H Q => ∃ i j, xs = [.int i, .int j] /\ Q (.int (if j < i then j else i)) H) := by
 intro pins s σ H xs us Q I r h
 obtain ⟨i, j, rfl, q⟩ := h
 obtain ⟨u, w', rfl, ⟨t, rfl⟩, ⟨t', rfl⟩⟩ := q7v r
 refine min_two_ints (I.ok.hd hc) λ h' tk k => ⟨_, H, I.kept k, ?_, q⟩
 by_cases hj : j < i
 ·rw [if_pos hj, if_pos hj]; exact ⟨_, rfl⟩
 ·rw [if_neg hj, if_neg hj]; exact ⟨_, rfl⟩
end
end L2
namespace L2
open PySem PySem.Spec PyProof.Rows
structure ObjM (h : Heap) (x dx C : Addr) (mA : Str -> Option Value) : Prop where
 obj : h.get? x = some (PySem.W.instObj C dx)
 ns : h.Ns1 dx mA
 ne : dx ≠ x
section
variable {prog : Program} {w : World} {A : Around} {E : Value -> Shared -> Prop} {s : Shared} {K : PySem.W.Frag} {x dx C f : Addr} {mA : Str -> Option Value} {name : Str} {v : Value}
end
section
variable {P : Program} {w : World} {H H' : Hp} {h h' : Heap} {a C dx : Addr} {fs fs' : List (Str × V)}
end
structure Cls (K : PySem.W.Frag) (C : Addr) : Prop where
 pg : PySem.W.plainGet K C Str.empty = true
 hd : PySem.W.hasDictIn K C = true
 po : PySem.W.plainOver K C = true
 sa : PySem.W.findIn K (.ref C) "__setattr__" = some (some (.builtin "object.__setattr__"))
structure Con (K : PySem.W.Frag) (C : Addr) (f : Str) (v : V) (u : Value) : Prop where
 at_ : PySem.W.findIn K (.ref C) f = some (some u)
 rel : RelV v u
 get : PySem.W.specialIn K u "__get__" = some none
 cp : PySem.W.copiedNames.contains f = false
structure Meth (K : PySem.W.Frag) (C : Addr) (m : Str) (f : Addr) : Prop where
 at_ : PySem.W.findIn K (.ref C) m = some (some (.ref f))
 fn : PySem.W.isFn K (.ref f) = true
 kp : PySem.W.keepIn K (.ref f) = true
section
variable {X : Cx} {pins : List (Addr × Obj)} {σ : St} {H : Hp} {s : Shared} {a C dx : Addr} {fs : List (Str × V)} {f : Str} {v : V} {A : Around} {E : Value -> Shared -> Prop}
end
section
variable {X : Cx} {o e value : Expr} {f : Str} {pos pos' tpos : Pos} {ta tv : TE}
end
section
variable {X : Cx} {pins : List (Addr × Obj)} {σ : St} {H : Hp} {s : Shared} {A : Around} {E : Value -> Shared -> Prop} {Q : Value -> Shared -> Prop} {c : Value} {b : Bool}
inductive TyOf (K : PySem.W.Frag) (H : Hp) : V -> Value -> Prop where
 | non : TyOf K H .non (.type "NoneType")
 | bl (x : Bool) : TyOf K H (.bl x) (.type "bool")
 | int (i : Int) : TyOf K H (.int i) (.type "int")
 | str (x : Str) : TyOf K H (.str x) (.type "str")
 | flt (x : UInt64) : TyOf K H (.flt x) (.type "float")
 | lst {a : Addr} {xs : List V} (e : H a = some (.lst xs)) : TyOf K H (.ref a) (.type "list")
 | frz {a : Addr} {o : Obj} {xs : List V} (e : H a = some (.frz o (.lst xs))) : TyOf K H (.ref a) (.type "list")
 | tup {a : Addr} {xs : List V} (e : H a = some (.tup xs)) : TyOf K H (.ref a) (.type "tuple")
 | dK {a : Addr} {kvs : List (Key × V)} (e : H a = some (.dK kvs)) : TyOf K H (.ref a) (.type "dict")
 | dT {a : Addr} {kvs : List (List Key × V)} (e : H a = some (.dT kvs)) : TyOf K H (.ref a) (.type "dict")
 | ins {a C dx : Addr} {fs : List (Str × V)} (e : H a = some (.ins C dx fs)) (cl : Cls K C) (ha : PySem.W.findIn K (.ref C) "__class__" = some (some (.builtin "object.__class__")))
   (hn : PySem.W.specialIn K (.builtin "object.__class__") "__get__" = some (some (.builtin "getset_descriptor.__get__"))) (htk : PySem.W.takesIn K (.builtin "object.__class__") = some true)
   (hm : PySem.W.mroIn K C (.type "object") = some true) : TyOf K H (.ref a) (.ref C)
end
end L2
namespace L2
open PySem PySem.Spec PyProof.Rows
structure Room (k : Nat) (A : Around) : Prop where
 hd : A.handled = none
 dp : A.depth + 3 * k + 5 < recursionLimit
 un : A.units + 16 * k + 200 < cLine
theorem Room.deeper {k : Nat} {A : Around} (r : Room (k + 1) A) (env : Env) : Room k (A.deeper env) :=
 ⟨r.hd, by have := r.dp; show A.depth + 1 + 3 * k + 5 < _; omega, by have := r.un; show A.units + 3 + 16 * k + 200 < _; omega⟩
theorem Room.depth {k : Nat} {A : Around} (r : Room k A) : A.depth < recursionLimit := by have := r.dp; omega
theorem Room.units {k : Nat} {A : Around} (r : Room k A) : A.units + 64 < cLine := by have := r.un; omega
noncomputable def tNil : TA := λ _ H Q => Q [] H
noncomputable def z5J (ta : TE) (tr : TA) : TA := λ σ H Q => ta σ H λ x H1 => tr σ H1 λ xs H2 => Q (x :: xs) H2
section
variable {X : Cx} {e : Expr} {es : List Expr} {te : TE} {t : TA} {pos : Pos}
theorem q3r : PA X [] tNil := λ _ _ _ _ H Q I h => Calls.spliced_nil ⟨[], H, I, .nil, h⟩
theorem q1h (ha : PE X e te) (hr : PA X es t) (hs : starEach (e :: es) X.env = (false, eval e X.env) :: starEach es X.env := by rfl) : PA X (e :: es) (z5J te t) := by
 intro pos pins s σ H Q I h
 rw [hs]
 show wpAny _ _ (spliced ((false, eval e X.env) :: backTo pos (starEach es X.env))) _ _ s
 refine Calls.spliced_cons (thn (ha pins s σ H _ I h) λ u s1 ⟨x, H1, I1, r1, q1⟩ => ?_)
 exact thn (hr pos pins s1 σ H1 _ I1 q1) λ us s2 ⟨xs, H2, I2, r2, q2⟩ => ⟨x :: xs, H2, I2, .cons r1 r2, q2⟩
noncomputable def tTup (t : TA) : TE := λ σ H Q => t σ H λ xs H1 => xs.length <= sizeLine /\ ∀ p, H1 p = none -> Q (.ref p) (upd H1 p (.tup xs))
noncomputable def tLst (t : TA) : TE := λ σ H Q => t σ H λ xs H1 => xs.length <= sizeLine /\ ∀ p, H1 p = none -> Q (.ref p) (upd H1 p (.lst xs))
theorem q6I {x1} (h : PA X es t) : PE X (.Tuple es x1 pos) (tTup t) := by
 intro pins s σ H Q I hq
 refine wpAny_Tuple_spliced (thn (h pos pins s σ H _ I hq) λ us s1 ⟨xs, H1, I1, r, z, q⟩ => ⟨by rw [← r.length]; exact z, ?_⟩)
 have hf : H1 s1.heap.objs.size = none := I1.hok.fresh (Nat.le_refl _)
 refine ⟨.ref s1.heap.objs.size, upd H1 s1.heap.objs.size (.tup xs), I1.laid (t' := s1.toks) (λ b u e => Heap.get?_push_of_some _ e) (Nat.le_refl _) ?_, rfl, q _ hf⟩
 exact ⟨z, us, r, ⟨_, Heap.get?_push_size _ rfl, ⟨rfl, rfl⟩, _, rfl⟩⟩
theorem z3X (h : PA X es t) : PE X (.List es pos) (tLst t) := by
 intro pins s σ H Q I hq
 refine wpAny_List_spliced (thn (h pos pins s σ H _ I hq) λ us s1 ⟨xs, H1, I1, r, z, q⟩ => ⟨by rw [← r.length]; exact z, ?_⟩)
 have hf : H1 s1.heap.objs.size = none := I1.hok.fresh (Nat.le_refl _)
 refine ⟨.ref s1.heap.objs.size, upd H1 s1.heap.objs.size (.lst xs), I1.laid (t' := s1.toks) (λ b u e => Heap.get?_push_of_some _ e) (Nat.le_refl _) ?_, rfl, q _ hf⟩
 exact ⟨z, us, 0, r, Heap.get?_push_size _ rfl⟩
end
noncomputable abbrev Sp := List V -> Hp -> VK -> XK -> Prop
noncomputable abbrev CXT := List Env -> Hp -> Shared -> XK -> Value -> Shared -> Prop
structure Env0 (P : Program) (w : World) (K : PySem.W.Frag) (mg : Str -> Option Value) (base : Heap) (A : Around) (outer : List Env) (s : Shared) (H : Hp) : Prop where
 frames : A.frames = some outer
 mod : Mod K mg base
 bs : ∀ b o, base.get? b = some o -> s.heap.get? b = some o /\ H b = none
 bsz : base.objs.size <= s.heap.objs.size
 funs : s.heap.FunFrames base outer
 frf : ∀ b ∈ frs outer, H b = none
 hok : HOk P w H s.heap
 bare : AllBare s.gens
noncomputable def CE (outer : List Env) (P : Program) (w : World) (H : Hp) (s : Shared) (Q : VK) (u : Value) (s' : Shared) : Prop :=
 ∃ v H', s'.os = s.os /\ AllBare s'.gens /\ Un (frs outer) [] H H' s.heap s'.heap /\ HOk P w H' s'.heap /\ RelV v u /\ Q v H'
noncomputable def CR (CX : CXT) (outer : List Env) (P : Program) (w : World) (H : Hp) (s : Shared) (Q : VK) (E : XK) (r : Result) (s' : Shared) : Prop :=
 match r with
 | .ok (.ret u) => CE outer P w H s Q u s'
 | .ok _ => False
 | .error e => CX outer H s E e s'
structure FnOk (P : Program) (w : World) (K : PySem.W.Frag) (mg : Str -> Option Value) (base : Heap) (CX : CXT) (k : Nat) (f : Addr) (fd : FuncData) (ps : List Str) (sp : Sp) : Prop where
 len : ∀ vs H Q E, sp vs H Q E -> vs.length = ps.length
 run : ∀ (A : Around) (outer : List Env) (s : Shared) (H : Hp) (args : Args) (us : List Value) (vs : List V) (Q : VK) (E : XK), Room k A -> Env0 P w K mg base A outer s H -> BindsTo s fd args (ps.zip us) -> Vals vs us -> sp vs H Q E ->
  codeAny (model P w) A (.call (.ref f) args) (CR CX outer P w H s Q E) s
section
variable {X : Cx} {pins : List (Addr × Obj)} {σ : St} {H : Hp} {s s' : Shared}
theorem Inv.env0 (I : Inv X pins σ H s) : Env0 X.prog X.w X.K X.mg X.base X.A X.stack s H :=
 ⟨I.ok.frames, I.ok.mod, I.bs, Nat.le_trans I.ok.bsz I.sz, I.stack, I.stkFree, I.hok, I.bare⟩
theorem Inv.after {Q : VK} {u : Value} (I : Inv X pins σ H s) (h : CE X.stack X.prog X.w H s Q u s') : EP X pins σ Q u s' := by
 obtain ⟨v, H', os, bare, un, hok, r, q⟩ := h
 obtain ⟨hh, g, d, t, os'⟩ := s'
 obtain rfl : os' = s.os := os
 exact ⟨v, H', I.call (h' := hh) (g' := g) (d' := d) (t' := t) (ch := []) un hok bare (λ b z => absurd z (by simp)), r, q⟩
end
noncomputable def q4a (K : PySem.W.Frag) (fd : FuncData) (ps : List Str) (ds : List Value) : Prop :=
 ∀ (s : Shared) (us : List Value), K.In s.heap -> (us ++ ds).length = ps.length -> BindsTo s fd ⟨us, []⟩ (ps.zip (us ++ ds))
theorem q4a.all {K : PySem.W.Frag} {fd : FuncData} {ps : List Str} (h : ∀ us : List Value, us.length = ps.length -> bindArgs fd ⟨us, []⟩ = pure (ps.zip us)) : q4a K fd ps [] := λ s us _ hl => by
 rw [List.append_nil] at hl ⊢
 exact .of_eq (h us hl)
noncomputable def q8s (CX : CXT) (X : Cx) (E : XK) : Prop := ∀ (pins : List (Addr × Obj)) (σ : St) (H : Hp) (s : Shared) (e : Value) (s' : Shared), Inv X pins σ H s -> CX X.stack H s E e s' -> X.xe e s'
section
variable {X : Cx} {CX : CXT} {k : Nat} {f C : Addr} {fd : FuncData} {ps : List Str} {sp : Sp} {dvs : List V} {ds : List Value} {E : XK} {x m : Str} {p pos apos : Pos} {e o : Expr} {es : List Expr} {ta : TE} {t : TA}
structure Mk (K : PySem.W.Frag) (C f : Addr) : Prop where
 makes : PySem.W.makesIn K C = true
 init : PySem.W.findIn K (.ref C) "__init__" = some (some (.ref f))
 fn : PySem.W.isFn K (.ref f) = true
 kp : PySem.W.keepIn K (.ref C) = true
end
section
variable {X : Cx} {CX : CXT} {k : Nat} {f C : Addr} {fd : FuncData} {ps ks : List Str} {sp : Sp} {E : XK} {x m : Str} {p pos apos kpos : Pos} {e o : Expr} {es : List Expr} {kws : List Keyword} {te ta : TE} {t tk : TA} {nm : Option Str}
structure KBinds (K : PySem.W.Frag) (fd : FuncData) (ps ks : List Str) (g : List Value -> List Value -> List Value) (gV : List V -> List V -> List V) : Prop where
 to : ∀ (s : Shared) (us ws : List Value), K.In s.heap -> (g us ws).length = ps.length -> BindsTo s fd ⟨us, ks.zip ws⟩ (ps.zip (g us ws))
 rel : ∀ {vs : List V} {us : List Value} {zs : List V} {ws : List Value}, Vals vs us -> Vals zs ws -> Vals (gV vs zs) (g us ws)
variable {g : List Value -> List Value -> List Value} {gV : List V -> List V -> List V}
end
structure FnScope (N P : List Str) (sc : Scope) : Prop where
 kind : sc.kind = .function
 co : sc.isCoroutine = false
 gen : sc.isGenerator = false
 nd : N.Nodup
 pre : N.take P.length = P
 par : ∀ x ∈ P, sc.names.lookup x = some .local \/ sc.names.lookup x = some .cell
 nofree : ∀ y ∈ sc.names, y.2 ≠ .free
theorem q5H {kindOf : Str -> Option NameKind} {x : Str} : ∀ {binds : List (Str × Value)} {m : Str -> Option Value}, (∀ v, (x, v) ∉ binds) -> bindL kindOf binds m x = m x
 | [], _, _ => rfl
 | (n, v) :: r, m, h => by
  unfold bindL
  rw [q5H λ w hw => h w (List.mem_cons_of_mem _ hw)]
  split
  ·have : x ≠ n := by rintro rfl; exact h v List.mem_cons_self
   simp [this]
  ·rfl
theorem q5O {kindOf : Str -> Option NameKind} {x : Str} : ∀ {binds : List (Str × Value)} {m : Str -> Option Value}, (∀ v, (x, v) ∉ binds) -> bindC kindOf binds m x = m x
 | [], _, _ => rfl
 | (n, v) :: r, m, h => by
  unfold bindC
  rw [q5O λ w hw => h w (List.mem_cons_of_mem _ hw)]
  split
  ·rfl
  ·have : x ≠ n := by rintro rfl; exact h v List.mem_cons_self
   simp [this]
theorem q5p {kindOf : Str -> Option NameKind} {x : Str} {v : Value} : ∀ {P : List Str} {vs : List Value} {i : Nat} {m : Str -> Option Value}, P.Nodup -> P[i]? = some x -> vs[i]? = some v -> kindOf x = some .local ->
  bindL kindOf (P.zip vs) m x = some v
 | [], _, _, _, _, h, _, _ => by simp at h
 | _ :: _, [], _, _, _, _, h, _ => by simp at h
 | p :: P, w :: vs, 0, m, nd, h1, h2, hk => by
  simp at h1 h2; subst h1; subst h2
  show bindL kindOf ((p, w) :: P.zip vs) m p = _
  unfold bindL
  rw [q5H λ v hv => (List.nodup_cons.mp nd).1 (List.of_mem_zip hv).1, if_pos hk]
  simp
 | p :: P, w :: vs, i + 1, m, nd, h1, h2, hk => by
  show bindL kindOf ((p, w) :: P.zip vs) m x = _
  unfold bindL
  exact q5p (i := i) (List.nodup_cons.mp nd).2 (by simpa using h1) (by simpa using h2) hk
theorem q5o {kindOf : Str -> Option NameKind} {x : Str} {v : Value} : ∀ {P : List Str} {vs : List Value} {i : Nat} {m : Str -> Option Value}, P.Nodup -> P[i]? = some x -> vs[i]? = some v -> kindOf x ≠ some .local ->
  bindC kindOf (P.zip vs) m x = some v
 | [], _, _, _, _, h, _, _ => by simp at h
 | _ :: _, [], _, _, _, _, h, _ => by simp at h
 | p :: P, w :: vs, 0, m, nd, h1, h2, hk => by
  simp at h1 h2; subst h1; subst h2
  show bindC kindOf ((p, w) :: P.zip vs) m p = _
  unfold bindC
  rw [q5O λ v hv => (List.nodup_cons.mp nd).1 (List.of_mem_zip hv).1, if_neg hk]
  simp
 | p :: P, w :: vs, i + 1, m, nd, h1, h2, hk => by
  show bindC kindOf ((p, w) :: P.zip vs) m x = _
  unfold bindC
  exact q5o (i := i) (List.nodup_cons.mp nd).2 (by simpa using h1) (by simpa using h2) hk
noncomputable def start (N : List Str) (vs : List V) : St := vs.map some ++ List.replicate (N.length - vs.length) none
noncomputable def cxOf (CX : CXT) (P : Program) (w : World) (K : PySem.W.Frag) (mg : Str -> Option Value) (base : Heap) (N : List Str) (qual : Str) (scope : Scope) (f : Addr) (cd : Value) (A : Around) (outer : List Env) (s : Shared) (H : Hp) (E : XK) : Cx where
 prog := P
 w := w
 K := K
 mg := mg
 base := base
 A := A.deeper (envOfC qual scope s.heap.objs.size f cd)
 N := N
 s₀ := s
 H₀ := H
 env := envOfC qual scope s.heap.objs.size f cd
 outer := outer
 stack := envOfC qual scope s.heap.objs.size f cd :: outer
 ex := []
 calm := true
 fn := λ _ => true
 pn := []
 xe := λ e s' => wpAny (model P w) (A.deeper (envOfC qual scope s.heap.objs.size f cd)) (leaving (envOfC qual scope s.heap.objs.size f cd) e) (λ _ s'' => CX outer H s E e s'') (λ e' s'' => CX outer H s E e' s'') s'
theorem q6H {sc : Scope} {n : Nat} {x : Str} (h : sc.names.lookup x = some .cell) : ∃ c, (cellsFrom n sc.names []).lookup x = some c := by
 have q := PySem.W.cellsFrom_some sc.names n [] (.inl h)
 exact Option.isSome_iff_exists.mp q
theorem q8T {CX : CXT} {P : Program} {w : World} {K : PySem.W.Frag} {mg : Str -> Option Value} {base : Heap} {N ps : List Str} {qual : Str} {scope : Scope} {f : Addr} {cd : Value} {A : Around} {outer : List Env} {s s1 : Shared} {H : Hp} {E : XK} {us : List Value} {vs : List V}
  (S : FnScope N ps scope) (hd : A.handled = none) (e0 : Env0 P w K mg base A outer s H) (hl : vs.length = ps.length) (r : Vals vs us)
  (x : InCallC s s.heap.objs.size (bindL (envOfC qual scope s.heap.objs.size f cd).kindOf (ps.zip us) λ _ => none) (cellsFrom (s.heap.objs.size + 1) scope.names []) (bindC (envOfC qual scope s.heap.objs.size f cd).kindOf (ps.zip us) λ _ => none) s1) :
  Inv (cxOf CX P w K mg base N qual scope f cd A outer s H E) [] (start N vs) H s1 := by
 have hpl : ps.length <= N.length := by have := congrArg List.length S.pre; rw [List.length_take] at this; omega
 obtain ⟨h1, tk, rfl, hk⟩ := x.done
 have noA : ∀ b : Addr, b ∉ (cxOf CX P w K mg base N qual scope f cd A outer s H E).ex := λ b z => absurd (show b ∈ ([] : List Addr) from z) (by simp)
 refine ⟨⟨e0.mod, S.kind, rfl, rfl, Nat.le_refl _, λ y z c h1 h2 => ?_, λ y hy => ?_, λ y c _ h => ?_, λ _ => hd, Around.frames_deeper e0.frames, .inr ⟨rfl, rfl⟩, λ b z => absurd z (noA b), e0.bs, e0.bsz, λ b _ _ => noA b, λ b z => absurd z (noA b), e0.funs, e0.frf⟩,
  rfl, e0.bare, Un.kept hk, ⟨_, x.toInCall.ns, λ i y v h1 h2 h3 => ?_⟩, λ y c h => ⟨_, x.cell y c h⟩, e0.hok.fresh (Nat.le_refl _), λ y c h => ?_, λ p hp => absurd (show p ∈ ([] : List (Addr × Obj)) from hp) (by simp), e0.hok.kept hk, ?_⟩
 ·exact name_of_addr x.apart (PySem.mem_of_lookup h1) (PySem.mem_of_lookup h2)
 ·have hy : scope.names.lookup y = some .cell \/ scope.names.lookup y = some .free := hy
  rcases hy with hy | hy
  ·exact q6H hy
  ·exact absurd rfl (S.nofree _ (PySem.mem_of_lookup hy))
 ·exact Nat.le_of_lt (x.above y c (PySem.mem_of_lookup h))
 ·have hi : i < vs.length := by
   unfold start at h2
   by_cases hi : i < vs.length
   ·exact hi
   ·rw [List.getElem?_append_right (by simpa using hi)] at h2
    rw [List.getElem?_replicate] at h2
    split at h2 <;> cases h2
  have ha : vs[i]? = some v := by
   unfold start at h2
   rw [List.getElem?_append_left (by simpa using hi), List.getElem?_map] at h2
   cases e : vs[i]? with
   | none => rw [e] at h2; cases h2
   | some a => rw [e] at h2; cases h2; rfl
  obtain ⟨u, hu, rv⟩ := r.get ha
  have hp : ps[i]? = some y := by
   rw [← S.pre, List.getElem?_take_of_lt (by omega)]; exact h1
  have ndP : ps.Nodup := by rw [← S.pre]; exact S.nd.sublist (List.take_sublist _ _)
  refine ⟨u, rv, ?_⟩
  rcases S.par y (List.mem_of_getElem? hp) with k | k
  ·exact .inl ⟨k, q5p ndP hp hu k⟩
  ·obtain ⟨c, e⟩ := q6H (n := s.heap.objs.size + 1) k
   refine .inr ⟨.inl k, c, e, ?_⟩
   have q := x.cell y c e
   rw [q5o ndP hp hu (by show scope.names.lookup y ≠ _; rw [k]; decide)] at q
   exact q
 ·exact e0.hok.fresh (Nat.le_of_lt (x.above y c (PySem.mem_of_lookup h)))
 ·unfold start
  show _ = N.length
  rw [List.length_append, List.length_map, List.length_replicate]
  omega
theorem z5z {CX : CXT} {P : Program} {w : World} {K : PySem.W.Frag} {mg : Str -> Option Value} {base : Heap} {k : Nat} {f : Addr} {name qual : Str} {params : Arguments} {body : List Stmt} {scope : Scope} {dV kV doc pm cdv ct oc : Value} {an od : Option Addr}
  {osl : Array (Option Value)} {N ps : List Str} {sp : Sp} (lk : K.lookup f = some ⟨oc, od, .func (PySem.W.fnOf name qual params body scope dV kV doc pm an cdv ct), osl⟩) (hcd : PySem.W.codeIn K cdv qual = true) (S : FnScope N ps scope)
  (len : ∀ vs H Q E, sp vs H Q E -> vs.length = ps.length)
  (hbody : ∀ (A : Around) (outer : List Env) (s : Shared) (H : Hp) (vs : List V) (Q : VK) (E : XK), Room k (A.deeper (envOfC qual scope s.heap.objs.size f cdv)) -> sp vs H Q E ->
   ∃ t, PSs (cxOf CX P w K mg base N qual scope f cdv A outer s H E) body t /\ t { nx := λ _ H' => Q .non H', rt := Q } (start N vs) H) :
  FnOk P w K mg base CX (k + 1) f (PySem.W.fnOf name qual params body scope dV kV doc pm an cdv ct) ps sp := by
 refine ⟨len, λ A outer s H args us vs Q E hr e0 hb r hsp => ?_⟩
 have hl := len _ _ _ _ hsp
 have KX : K.In s.heap := e0.mod.kin.keeps λ b o e => (e0.bs b o e).1
 have lim : s.heap.NoLimit := e0.mod.nolimit.keeps λ b o e => (e0.bs b o e).1
 have hkind : ∀ y ∈ ps.zip us, scope.names.lookup y.1 = some .local \/ (scope.names.lookup y.1 = some .cell /\ ((cellsFrom (s.heap.objs.size + 1) scope.names []).lookup y.1).isSome = true) := λ ⟨n, v⟩ hy => by
  rcases S.par n (List.of_mem_zip hy).1 with q | q
  ·exact .inl q
  ·exact .inr ⟨q, PySem.W.cellsFrom_some _ _ _ (.inl q)⟩
 refine codeAny_call_function hr.depth (KX _ _ lk) rfl S.co S.gen rfl (PySem.W.codeRec_of KX hcd) (hb _ _ _ _ ?_)
 refine wpAny_newFunctionEnv_cells S.kind hkind λ env he s1 x => ?_
 subst he
 refine ⟨lim.keeps x.toInCall.keep, codeAny_func ?_⟩
 obtain ⟨t, ht, hq⟩ := hbody A outer s H vs Q E (hr.deeper _) hsp
 have I : Inv (cxOf CX P w K mg base N qual scope f cdv A outer s H E) [] (start N vs) H s1 := q8T S hr.hd e0 hl r x
 refine wpAny_mono (ht [] s1 (start N vs) H _ I hq) (λ fl s' hs => ?_) λ e s' hs => hs
 have fin : ∀ {σ' : St} {H' : Hp} {v : V} {u : Value}, Inv (cxOf CX P w K mg base N qual scope f cdv A outer s H E) [] σ' H' s' -> RelV v u -> Q v H' -> CE outer P w H s Q u s' :=
  λ {σ' H' v u} J rv q => ⟨v, H', J.os, J.bare, J.base, J.hok, rv, q⟩
 cases fl with
 | ret u =>
  obtain ⟨v, σ', H', J, rv, q⟩ := hs
  exact fin J rv q
 | next =>
  obtain ⟨σ', H', J, q⟩ := hs
  exact fin (v := V.non) (u := Value.none) J rfl q
 | brk =>
  obtain ⟨_, _, _, q⟩ := hs
  exact False.elim q
 | cont =>
  obtain ⟨_, _, _, q⟩ := hs
  exact False.elim q
end L2
namespace L2
open PySem PySem.Spec PyProof.Rows
section
variable {X : Cx} {x : Str} {p pos : Pos} {e : Expr} {es : List Expr} {t : TA} {id T : String} {r : List V -> Hp -> VK -> Prop}
noncomputable def tCB (r : List V -> Hp -> VK -> Prop) (t : TA) : TE := λ σ H Q => t σ H λ vs H1 => r vs H1 Q
theorem q3y (hc : q1J X (.builtin id) r) (hg : Gl X x) (hm : X.mg x = none) (hv : bootBuiltins x = some (.builtin id)) (ha : PA X (e :: es) t) (hn : x ≠ "__name__" := by decide) (hdb : (x == ("__debug__" : Str)) = false := by decide)
  (he : starEach (e :: es) X.env = (false, eval e X.env) :: starEach es X.env := by rfl) (hpl : (backTo pos (starEach es X.env)).any (·.1) = false := by rfl) : PE X (.Call (.Name x p) (e :: es) [] pos) (tCB r t) := by
 intro pins s σ H Q I h
 refine wpAny_Call_Name_kw (q4p I hg hm hv ?_ hn hdb)
 exact PyProof.Rows.callWith_builtin1 (thn (ha pos pins s σ H _ I h) λ us s1 ⟨vs, H1, I1, r1, q1⟩ => hc pins s1 σ H1 vs us Q I1 r1 q1) he hpl
theorem q9h (hc : q1J X (.type T) r) (hg : Gl X x) (hm : X.mg x = none) (hv : bootBuiltins x = some (.type T)) (ha : PA X (e :: es) t) (hn : x ≠ "__name__" := by decide) (hdb : (x == ("__debug__" : Str)) = false := by decide)
  (he : starEach (e :: es) X.env = (false, eval e X.env) :: starEach es X.env := by rfl) (hpl : (backTo pos (starEach es X.env)).any (·.1) = false := by rfl) : PE X (.Call (.Name x p) (e :: es) [] pos) (tCB r t) := by
 intro pins s σ H Q I h
 refine wpAny_Call_Name_kw (q4p I hg hm hv ?_ hn hdb)
 exact PyProof.Rows.callWith_type1 (thn (ha pos pins s σ H _ I h) λ us s1 ⟨vs, H1, I1, r1, q1⟩ => hc pins s1 σ H1 vs us Q I1 r1 q1) he hpl
end
end L2
namespace HT
open PySem PyProof.Rows
section
open PySem.SeqAt
open PySem.AutoSeq1 (wpAny_loadPart')
open PySem.MeetsSeq PySem.MeetsSeq2 PySem.MeetsSeq3
end
section
variable {prog : Program} {w : World} {A : Around} {E : Value -> Shared -> Prop} {s : Shared}
theorem cat_tup {t b : Addr} {vs ws : List Value} {Q : Value -> Shared -> Prop} (ht : IsTup s.heap t vs.toArray) (hb : IsTup s.heap b ws.toArray) (hv : vs ≠ [])
  (h1 : ws = [] -> Q (.ref t) s) (h2 : ws ≠ [] -> Q (.ref s.heap.objs.size) { s with heap := s.heap.push { cls := .type "tuple", data := .seq (vs ++ ws).toArray } })
  (hsz : vs.length + ws.length <= sizeLine) : wpAny (model prog w) A (binaryOp .Add (.ref t) (.ref b)) Q E s := by
 obtain ⟨⟨cls, dd, data, sl⟩, ho, hc, n, hd⟩ := id ht
 obtain ⟨⟨cls2, dd2, data2, sl2⟩, ho2, hc2, n2, hd2⟩ := id hb
 simp only at hc hd hc2 hd2
 subst hc hd hc2 hd2
 have e : vs.toArray ++ ws.toArray = (vs ++ ws).toArray := by simp
 by_cases hw : ws = []
 ·exact concat_meets ⟨_, ho, rfl⟩ ⟨_, ho2, rfl⟩ noFill_tuple_add seq_tuple_add PySem.F.slot_tuple_add PySem.F.entry_tuple_add (PySem.F.args_tuple_add_2 _ _)
   (tuple_addW1 t b vs.toArray ws.toArray n n2 dd dd2 sl sl2 (by simpa using hv) (by simp [hw])) ⟨ho, ho2, h1 hw⟩
 ·refine concat_meets ⟨_, ho, rfl⟩ ⟨_, ho2, rfl⟩ noFill_tuple_add seq_tuple_add PySem.F.slot_tuple_add PySem.F.entry_tuple_add (PySem.F.args_tuple_add_2 _ _)
   (tuple_addW2 t b vs.toArray ws.toArray n n2 dd dd2 sl sl2 (by simpa using hv) (by simpa using hw) (by rw [List.size_toArray, List.size_toArray]; exact hsz)) ⟨ho, ho2, ?_⟩
  rw [e]
  exact h2 hw
noncomputable def sIx (n d : Nat) : Option Int -> Nat
 | none => d
 | some v => if v < 0 then (v + (n : Int)).toNat else min v.toNat n
theorem z4m (n d : Nat) (hd : d <= n) (o : Option Int) : sIx n d o <= n := by
 cases o with
 | none => exact hd
 | some v =>
  show (if v < 0 then (v + (n : Int)).toNat else min v.toNat n) <= n
  by_cases hv : v < 0
  ·rw [if_pos hv]; omega
  ·rw [if_neg hv]; exact Nat.min_le_right _ _
theorem q7P (v : Int) (n d : Nat) : (if v < 0 then max (v + (n : Int)) 0 else min v (n : Int)) = ((sIx n d (some v) : Nat) : Int) := by
 show (if v < 0 then max (v + (n : Int)) 0 else min v (n : Int)) = (((if v < 0 then (v + (n : Int)).toNat else min v.toNat n) : Nat) : Int)
 by_cases hv : v < 0
 ·simp only [if_pos hv]; omega
 ·simp only [if_neg hv]; omega
theorem q7B (lo hi : Option Int) (n : Nat) : Builtin.Slice.sliceAdjust lo hi 1 (n : Int) = (((sIx n 0 lo : Nat) : Int), ((sIx n n hi : Nat) : Int)) := by
 have h1 : ¬ ((1 : Int) < 0) := by omega
 unfold Builtin.Slice.sliceAdjust
 simp only [h1, if_false]
 refine Prod.ext ?_ ?_
 ·cases lo with
  | none => rfl
  | some v => exact q7P v n 0
 ·cases hi with
  | none => rfl
  | some v => exact q7P v n n
theorem q7D (i j : Nat) : Builtin.Slice.slicePlaces (i : Int) (j : Int) 1 = j - i := by
 unfold Builtin.Slice.slicePlaces
 have h1 : (1 : Int) > 0 := by omega
 simp only [h1, if_true, Int.ediv_one]
 split <;> omega
theorem q4v {v : Value} {o : Option Int} {Q : Option Int -> Shared -> Prop} (p : IsPart v o) (h : Q o s) : wpAny (model prog w) A (Builtin.Slice.slicePartIndex v) Q E s := by
 cases p with
 | none => exact slicePart_none h
 | int i t => exact slicePart_int h
theorem q3u {sl : Addr} {vl vu : Value} {lo hi : Option Int} {n : Nat} {Q : Int × Int × Nat -> Shared -> Prop} (hs : s.heap.IsSliceOf sl vl vu .none) (pl : IsPart vl lo) (pu : IsPart vu hi)
  (h : Q (((sIx n 0 lo : Nat) : Int), 1, sIx n n hi - sIx n 0 lo) s) : wpAny (model prog w) A (Builtin.Slice.sliceApplied (.ref sl) (pure (n : Int))) Q E s := by
 obtain ⟨os, hos, hcs, hds⟩ := id hs
 unfold Builtin.Slice.sliceApplied Builtin.Slice.sliceFields
 refine wpAny_bind (wpAny_bind (wpAny_field hos hds (x := vl) rfl (wpAny_bind (wpAny_field hos hds (x := vu) rfl (wpAny_bind (wpAny_field hos hds (x := .none) rfl (wpAny_pure ?_)))))))
 refine wpAny_bind (slicePart_none ?_)
 show wpAny _ _ (if ((1 : Int) == 0) = true then _ else _) _ _ s
 rw [if_neg (by decide)]
 refine wpAny_bind (q4v pl (wpAny_bind (q4v pu (wpAny_bind (wpAny_pure ?_)))))
 show wpAny _ _ (match Builtin.Slice.sliceAdjust lo hi 1 (n : Int) with | (lo, hi) => pure (lo, (1 : Int), Builtin.Slice.slicePlaces lo hi 1)) _ _ s
 rw [q7B lo hi n]
 show wpAny _ _ (pure (((sIx n 0 lo : Nat) : Int), (1 : Int), Builtin.Slice.slicePlaces ((sIx n 0 lo : Nat) : Int) ((sIx n n hi : Nat) : Int) 1)) _ _ s
 rw [q7D]
 exact wpAny_pure h
theorem q9L (xs : Array Value) (i k : Nat) : ((List.range k).filterMap λ (m : Nat) => xs[((i : Int) + (m : Int) * 1).toNat]?).toArray = ((xs.toList.drop i).take k).toArray := by
 have e : (λ (m : Nat) => xs[((i : Int) + (m : Int) * 1).toNat]?) = λ m => xs[i + m]? := by
  funext m
  have : ((i : Int) + (m : Int) * 1).toNat = i + m := by omega
  rw [this]
 rw [e]
 have := pick_run xs i k
 rw [List.filterMap_map] at this
 have e2 : ((λ x => xs[x]?) ∘ λ x => i + x) = λ m => xs[i + m]? := rfl
 rw [e2] at this
 rw [this]
theorem getItem_tuple_cut {t sl : Addr} {items : Array Value} {vl vu : Value} {lo hi : Option Int} {Q : Value -> Shared -> Prop} (ht : IsTup s.heap t items) (hs : s.heap.IsSliceOf sl vl vu .none) (pl : IsPart vl lo) (pu : IsPart vu hi)
  (hw : ¬ (sIx items.size 0 lo = 0 /\ sIx items.size items.size hi = items.size))
  (h : Q (.ref s.heap.objs.size) { s with heap := s.heap.push { cls := .type "tuple", data := .seq ((items.toList.drop (sIx items.size 0 lo)).take (sIx items.size items.size hi - sIx items.size 0 lo)).toArray } })
  (hsz : items.size <= sizeLine) : wpAny (model prog w) A (getItem (.ref t) (.ref sl)) Q E s := by
 have htake : sizeOk (.seq ((items.toList.drop (sIx items.size 0 lo)).take (sIx items.size items.size hi - sIx items.size 0 lo)).toArray) := by
  show ((items.toList.drop (sIx items.size 0 lo)).take (sIx items.size items.size hi - sIx items.size 0 lo)).toArray.size <= sizeLine
  rw [List.size_toArray, List.length_take, List.length_drop, Array.length_toList]
  omega
 have hj : sIx items.size items.size hi <= items.size := z4m _ _ (Nat.le_refl _) hi
 obtain ⟨os, hos, hcs, hds⟩ := id hs
 have hTs : s.TypeIs (.ref sl) "slice" := ⟨os, hos, hcs⟩
 unfold getItem
 try with_reducible refine wpAny_holding ?_
 first | refine wpAny_bind (wpAny_pure ?_) | skip
 refine wpAny_bind (wpAny_sequenceKey ht.typeIs (by decide) ?_)
 refine wpAny_bind (wpAny_callSpecial?_slot (name := Str.ofString "__getitem__") ht.typeIs PyProof.Rows.slot_tuple_getitem
  (wpAny_call_entry PyProof.Rows.slot_tuple_getitem ht.typeIs entry_tuple_getitem ?_ (args_tuple_getitem _ _)))
 show wpAny _ _ (Builtin.Tuple.tupleItemsOf (.ref t) >>= _) _ _ s
 refine wpAny_bind (tupleItemsOf_ ht ?_)
 refine wpAny_bind (wpAny_typeOf hTs ?_)
 rw [if_pos (by decide)]
 refine wpAny_bind (q3u hs pl pu ?_)
 have hno : ¬ ((((sIx items.size 0 lo : Nat) : Int) == 0 && (1 : Int) == 1 && (sIx items.size items.size hi - sIx items.size 0 lo) == items.size) = true) := by
  intro q
  rw [Bool.and_eq_true, Bool.and_eq_true] at q
  have q1 : ((sIx items.size 0 lo : Nat) : Int) = 0 := eq_of_beq q.1.1
  have q2 : sIx items.size items.size hi - sIx items.size 0 lo = items.size := eq_of_beq q.2
  exact hw ⟨by omega, by omega⟩
 show wpAny _ _ (if (((sIx items.size 0 lo : Nat) : Int) == 0 && (1 : Int) == 1 && (sIx items.size items.size hi - sIx items.size 0 lo) == items.size) = true then _ else _) _ _ s
 rw [if_neg hno, q9L]
 first
  | exact wpAny_bind (m := Builtin.Tuple.tupleExact _) (wpAny_newObj_type (wpAny_pure ⟨_, rfl, wpAny_pure h⟩) htake)
  | exact wpAny_bind (m := Builtin.Tuple.tupleExact _) (wpAny_newObj_type (wpAny_bind (wpAny_pure (wpAny_pure ⟨_, rfl, wpAny_pure h⟩))) htake)
  | exact wpAny_bind (wpAny_bind (m := Builtin.Tuple.tupleExact _) (wpAny_newObj_type (wpAny_pure (wpAny_pure ⟨_, rfl, wpAny_pure h⟩)) htake))
  | exact wpAny_bind (wpAny_bind (m := Builtin.Tuple.tupleExact _) (wpAny_newObj_type (wpAny_pure ⟨_, rfl, wpAny_pure h⟩) htake))
end
end HT
namespace L2
open PySem PySem.Spec PyProof.Rows
noncomputable abbrev TO := St -> Hp -> (Option Int -> Hp -> Prop) -> Prop
noncomputable def PO (X : Cx) (e : Option Expr) (t : TO) : Prop :=
 ∀ (pins : List (Addr × Obj)) (s : Shared) (σ : St) (H : Hp) (Q : Option Int -> Hp -> Prop), Inv X pins σ H s -> t σ H Q ->
  wpAny (model X.prog X.w) X.A (evalPart e X.env) (λ u s' => ∃ o H', Inv X pins σ H' s' /\ IsPart u o /\ Q o H') X.xe s
noncomputable def z1G : TO := λ _ H Q => Q none H
noncomputable def z5y (t : TE) : TO := λ σ H Q => t σ H λ x H1 => ∃ i, x = .int i /\ Q (some i) H1
section
variable {X : Cx} {e : Expr} {te : TE} {lo hi : Option Expr} {tl th : TO} {pos p2 : Pos}
theorem q3h : PO X none z1G := by
 intro pins s σ H Q I h
 rw [evalPart_none]
 exact wpAny_pure ⟨none, H, I, .none, h⟩
theorem q8p (h : PE X e te) : PO X (some e) (z5y te) := by
 intro pins s σ H Q I hw
 rw [evalPart_some]
 refine thn (h pins s σ H _ I hw) λ u s1 ⟨x, H1, I1, r1, q1⟩ => ?_
 obtain ⟨i, rfl, q⟩ := q1
 obtain ⟨t, rfl⟩ := r1
 exact ⟨some i, H1, I1, .int i t, q⟩
noncomputable def SlR (X : Cx) (r : V -> Option Int -> Option Int -> Hp -> VK -> Prop) : Prop :=
 ∀ (pins : List (Addr × Obj)) (s : Shared) (σ : St) (H : Hp) (x : V) (v vl vu : Value) (lo hi : Option Int) (sl : Addr) (Q : VK), Inv X pins σ H s -> RelV x v -> s.heap.IsSliceOf sl vl vu .none -> IsPart vl lo -> IsPart vu hi -> r x lo hi H Q ->
  ∃ T id, typeLookup (.type T) "__getitem__" = pure (some (.builtin id)) /\ s.TypeIs v T /\ wpAny (model X.prog X.w) X.A (getItem v (.ref sl)) (EP X pins σ Q) X.xe s
theorem SlR.or {r r' : V -> Option Int -> Option Int -> Hp -> VK -> Prop} (h : SlR X r) (h' : SlR X r') : SlR X (λ x lo hi H Q => r x lo hi H Q \/ r' x lo hi H Q) := by
 intro pins s σ H x v vl vu lo hi sl Q I rx hs pl pu q
 rcases q with q | q
 ·exact h pins s σ H x v vl vu lo hi sl Q I rx hs pl pu q
 ·exact h' pins s σ H x v vl vu lo hi sl Q I rx hs pl pu q
noncomputable def tSl (r : V -> Option Int -> Option Int -> Hp -> VK -> Prop) (te : TE) (tl th : TO) : TE := λ σ H Q => te σ H λ x H1 => tl σ H1 λ l H2 => th σ H2 λ u H3 => r x l u H3 Q
theorem q1t {r : V -> Option Int -> Option Int -> Hp -> VK -> Prop} (hr : SlR X r) (he : PE X e te) (hl : PO X lo tl) (hu : PO X hi th) : PE X (.Subscript e (.Slice lo hi none p2) pos) (tSl r te tl th) := by
 intro pins s σ H Q I h
 refine Subscript_ (thn (he pins s σ H _ I h) λ v s1 ⟨x, H1, I1, r1, q1⟩ => ?_)
 refine wpAny_Slice (thn (hl pins s1 σ H1 _ I1 q1) λ vl s2 ⟨l, H2, I2, pl, q2⟩ => thn (hu pins s2 σ H2 _ I2 q2) λ vu s3 ⟨u, H3, I3, pu, q3⟩ => ?_)
 rw [evalPart_none]
 refine wpAny_pure ?_
 have I4 : Inv X pins σ H3 { s3 with heap := s3.heap.push { cls := .type "slice", data := .fields #[vl, vu, .none] } } := I3.kept (t' := s3.toks) λ b ob q => Heap.get?_push_of_some _ q
 obtain ⟨T, id, hT, ht, hg⟩ := hr pins { s3 with heap := s3.heap.push { cls := .type "slice", data := .fields #[vl, vu, .none] } } σ H3 x v vl vu l u s3.heap.objs.size Q I4 r1 (Heap.IsSliceOf.new ..) pl pu q3
 show wpAny (model X.prog X.w) X.A (subscriptTail e (.Slice lo hi none p2) v (.ref s3.heap.objs.size)) (EP X pins σ Q) X.xe { s3 with heap := s3.heap.push { cls := .type "slice", data := .fields #[vl, vu, .none] } }
 exact tail_any (ops := [.ref s3.heap.objs.size, v]) ht hT hg (by with_unfolding_all rfl)
noncomputable def cutV (xs : List V) (lo hi : Option Int) : List V := (xs.drop (HT.sIx xs.length 0 lo)).take (HT.sIx xs.length xs.length hi - HT.sIx xs.length 0 lo)
theorem q3V (xs : List V) (lo hi : Option Int) : (cutV xs lo hi).length <= xs.length := by
 unfold cutV
 rw [List.length_take, List.length_drop]
 omega
noncomputable def rSlT (K : PySem.W.Frag) : V -> Option Int -> Option Int -> Hp -> VK -> Prop := λ x lo hi H Q => ∃ a xs, x = .ref a /\ SqT K H a xs /\
 ¬ (HT.sIx xs.length 0 lo = 0 /\ HT.sIx xs.length xs.length hi = xs.length) /\ ∀ p, H p = none -> Q (.ref p) (upd H p (.tup (cutV xs lo hi)))
theorem z4e : SlR X (rSlT X.K) := by
 intro pins s σ H x v vl vu lo hi sl Q I rx hs pl pu h
 obtain ⟨a, xs, rfl, hx, hw, q⟩ := h
 cases rx
 obtain ⟨its, r, ht, hz⟩ := I.tuple hx
 have hlen : its.toArray.size = xs.length := by rw [List.size_toArray]; exact r.length.symm
 refine ⟨"tuple", _, PyProof.Rows.slot_tuple_getitem.lookup, ht.typeIs, ?_⟩
 refine HT.getItem_tuple_cut ht hs pl pu (by rw [hlen]; exact hw) ?_ (by rw [hlen]; exact hz)
 rw [hlen]
 refine ⟨.ref s.heap.objs.size, _, I.laid (t' := s.toks) (o := .tup (cutV xs lo hi)) (λ b ob q => Heap.get?_push_of_some _ q) (Nat.le_refl _) ?_, rfl, q _ (I.hok.fresh (Nat.le_refl _))⟩
 exact ⟨Nat.le_trans (q3V xs lo hi) hz, _, (r.drop (HT.sIx xs.length 0 lo)).take (HT.sIx xs.length xs.length hi - HT.sIx xs.length 0 lo), q2D.new _ _⟩
noncomputable def z4k (K : PySem.W.Frag) : R2 := λ x y H Q => ∃ a b xs ys, x = .ref a /\ y = .ref b /\ SqT K H a xs /\ SqT K H b ys /\ xs ≠ [] /\ xs.length + ys.length <= sizeLine /\
 (ys = [] -> Q (.ref a) H) /\ (ys ≠ [] -> ∀ p, H p = none -> Q (.ref p) (upd H p (.tup (xs ++ ys))))
theorem Vals.nil_iff {xs : List V} {us : List Value} (r : Vals xs us) : us = [] ↔ xs = [] := by
 cases r with
 | nil => simp
 | cons _ _ => simp
theorem z1R : OpR X (binaryOp .Add) (z4k X.K) := by
 intro pins s σ H x y v u Q I rx ry h
 obtain ⟨a, b, xs, ys, rfl, rfl, ha, hb, hx, hz, q1, q2⟩ := h
 cases rx
 cases ry
 obtain ⟨its, r1, p1, _⟩ := I.tuple ha
 obtain ⟨its2, r2, p2, _⟩ := I.tuple hb
 refine HT.cat_tup p1 p2 (λ z => hx (r1.nil_iff.mp z)) (λ z => ⟨.ref a, H, I, rfl, q1 (r2.nil_iff.mp z)⟩) (λ z => ?_) (by rw [← r1.length, ← r2.length]; exact hz)
 refine ⟨.ref s.heap.objs.size, _, I.laid (t' := s.toks) (o := .tup (xs ++ ys)) (λ b ob q => Heap.get?_push_of_some _ q) (Nat.le_refl _) ?_, rfl, q2 (λ w => z (r2.nil_iff.mpr w)) _ (I.hok.fresh (Nat.le_refl _))⟩
 exact ⟨by rw [List.length_append]; exact hz, _, r1.append r2, q2D.new _ _⟩
end
end L2
namespace L2
open PySem PySem.Spec PyProof.Rows
noncomputable def ixN (n : Nat) (i : Int) : Option Nat := if 0 <= i then (if i < n then some i.toNat else none) else if -(n : Int) <= i then some (i + n).toNat else none
noncomputable def atI {α : Type} (xs : List α) (i : Int) : Option α := (ixN xs.length i).bind λ j => xs[j]?
theorem q8J {n : Nat} {i : Int} {j : Nat} (h : ixN n i = some j) : seqIndex? i n = some j /\ j < n /\ -(n : Int) <= i /\ i < n := by
 unfold ixN at h
 by_cases h0 : 0 <= i
 ·rw [if_pos h0] at h
  by_cases h1 : i < n
  ·rw [if_pos h1] at h
   have e : i.toNat = j := Option.some.inj h
   exact ⟨by rw [seqIndex_of h0 h1, e], by omega, by omega, h1⟩
  ·rw [if_neg h1] at h; cases h
 ·rw [if_neg h0] at h
  by_cases h1 : -(n : Int) <= i
  ·rw [if_pos h1] at h
   have e : (i + n).toNat = j := Option.some.inj h
   exact ⟨by rw [seqIndex_neg (by omega) h1, e], by omega, h1, by omega⟩
  ·rw [if_neg h1] at h; cases h
theorem q6m {α : Type} {xs : List α} {i : Int} {v : α} (h : atI xs i = some v) : ∃ j, seqIndex? i xs.length = some j /\ xs[j]? = some v /\ j < xs.length /\ -(xs.length : Int) <= i /\ i < xs.length := by
 unfold atI at h
 cases e : ixN xs.length i with
 | none => rw [e] at h; cases h
 | some j =>
  rw [e] at h
  obtain ⟨h1, h2, h3, h4⟩ := q8J e
  exact ⟨j, h1, h, h2, h3, h4⟩
noncomputable def z0X (b : Expr) : Prop := ∀ o i, subscripted b false o i = operate [o, i] (getItem o i)
noncomputable def IxR (X : Cx) (r : R2) : Prop :=
 ∀ (value slice : Expr) (pins : List (Addr × Obj)) (s : Shared) (σ : St) (H : Hp) (x y : V) (v u : Value) (Q : VK), Inv X pins σ H s -> RelV x v -> RelV y u -> r x y H Q ->
  subscripted slice false v u = operate [v, u] (getItem v u) -> wpAny (model X.prog X.w) X.A (subscriptTail value slice v u) (EP X pins σ Q) X.xe s
noncomputable def MtR (X : Cx) (id : String) (r : V -> List V -> Hp -> VK -> Prop) : Prop :=
 ∀ (pins : List (Addr × Obj)) (s : Shared) (σ : St) (H : Hp) (x : V) (xs : List V) (v : Value) (us : List Value) (Q : VK), Inv X pins σ H s -> RelV x v -> Vals xs us -> r x xs H Q ->
  wpAny (model X.prog X.w) X.A (call (.builtin id) (v :: us)) (EP X pins σ Q) X.xe s
section
variable {X : Cx} {a b : Expr} {ta tb : TE} {pos : Pos}
theorem IxR.or {r r' : R2} (h : IxR X r) (h' : IxR X r') : IxR X (λ x y H Q => r x y H Q \/ r' x y H Q) := by
 intro value slice pins s σ H x y v u Q I rx ry q hs
 rcases q with q | q
 ·exact h value slice pins s σ H x y v u Q I rx ry q hs
 ·exact h' value slice pins s σ H x y v u Q I rx ry q hs
theorem z4V {r : R2} (hr : IxR X r) (ha : PE X a ta) (hb : PE X b tb) (hs : z0X b) : PE X (.Subscript a b pos) (tOp r ta tb) := by
 intro pins s σ H Q I h
 exact Subscript_ (binT ha hb I h λ v u s2 x y H2 I2 rx ry q => hr a b pins s2 σ H2 x y v u Q I2 rx ry q (hs _ _))
noncomputable def rIxL (K : PySem.W.Frag) : R2 := λ x y H Q => ∃ p xs i v, x = .ref p /\ y = .int i /\ SqL K H p xs /\ atI xs i = some v /\ Q v H
noncomputable def rIxT (K : PySem.W.Frag) : R2 := λ x y H Q => ∃ p xs i v, x = .ref p /\ y = .int i /\ SqT K H p xs /\ atI xs i = some v /\ Q v H
noncomputable def rIxS : R2 := λ x y H Q => ∃ z i c, x = .str z /\ y = .int i /\ z.length <= sizeLine /\ atI z.cps.toList i = some c /\ Q (.str ⟨#[c]⟩) H
theorem z1e : IxR X (rIxL X.K) := by
 intro value slice pins s σ H x y v u Q I rx ry h hs
 obtain ⟨p, xs, i, z, rfl, rfl, hq, he, q⟩ := h
 cases rx
 obtain ⟨t, rfl⟩ := ry
 obtain ⟨its, r, pl, hz⟩ := I.list hq
 obtain ⟨j, h1, h2, h3, h4, h5⟩ := q6m he
 obtain ⟨w, ew, rw'⟩ := r.get h2
 have hl := r.length
 have hn := q3W
 have fin : EP X pins σ Q w s := ⟨z, H, I, rw', q⟩
 by_cases h0 : 0 <= i
 ·have hj : i.toNat = j := by
   rw [seqIndex_of h0 h5] at h1
   exact Option.some.inj h1
  exact item_listR pl.isList h0 (by omega) (by rw [hj]; simpa using ew) fin hs
 ·have hj : (i + (its.toArray.size : Int)).toNat = j := by
   rw [seqIndex_neg (by omega) h4] at h1
   rw [List.size_toArray, ← hl]
   exact Option.some.inj h1
  exact subscriptTail_builtinR (x := w) pl.isList.typeIs slot_list_getitem.lookup
   (wpAny_getItem_list_neg (Q := λ r s' => r = w /\ EP X pins σ Q r s') pl.isList (by omega) (by rw [List.size_toArray] <;> omega) (by omega) (by rw [hj]; simpa using ew) ⟨rfl, fin⟩) hs
theorem z4M : IxR X (rIxT X.K) := by
 intro value slice pins s σ H x y v u Q I rx ry h hs
 obtain ⟨p, xs, i, z, rfl, rfl, hq, he, q⟩ := h
 cases rx
 obtain ⟨t, rfl⟩ := ry
 obtain ⟨its, r, pl, hz⟩ := I.tuple hq
 obtain ⟨j, h1, h2, h3, h4, h5⟩ := q6m he
 obtain ⟨w, ew, rw'⟩ := r.get h2
 have hl := r.length
 have hn := q3W
 have fin : EP X pins σ Q w s := ⟨z, H, I, rw', q⟩
 exact subscriptTail_builtinR (x := w) pl.typeIs slot_tuple_getitem.lookup
  (getItem_tuple (j := j) (Q := λ r s' => r = w /\ EP X pins σ Q r s') pl (by omega) (by omega) (by rw [List.size_toArray, ← hl]; exact h1) (by simpa using ew) ⟨rfl, fin⟩) hs
theorem z2T : IxR X rIxS := by
 intro value slice pins s σ H x y v u Q I rx ry h hs
 obtain ⟨z, i, c, rfl, rfl, hz, he, q⟩ := h
 obtain ⟨t, rfl⟩ := rx
 obtain ⟨t', rfl⟩ := ry
 obtain ⟨j, h1, h2, h3, h4, h5⟩ := q6m he
 have hl : z.cps.toList.length = z.length := by simp [Str.length]
 rw [hl] at h1 h4 h5
 have hn := q3W
 exact tail_any (typeIs_str s z t) slot_str_getitem.lookup (getItem_str (c := c) (by
  have e1 : decide (i < -(2 ^ 63 : Int)) = false := decide_eq_false (by omega)
  have e2 : decide (i ≥ 2 ^ 63) = false := decide_eq_false (by omega)
  rw [e1, e2, Bool.or_false]) (by rw [h1]; simpa using h2) ⟨.str ⟨#[c]⟩, H, I.tok _, ⟨_, rfl⟩, q⟩) hs
noncomputable def rIx (K : PySem.W.Frag) : R2 := λ x y H Q => rIxL K x y H Q \/ rIxT K x y H Q \/ rIxS x y H Q
theorem z3k : IxR X (rIx X.K) := z1e.or (z4M.or z2T)
theorem q7s (its : List Value) (n j : Nat) (u : Value) : Obj.mapSeq (·.setIfInBounds j u) { cls := .type "list", data := .seq its.toArray n } = { cls := .type "list", data := .seq (its.set j u).toArray n } := by
 simp [Obj.mapSeq]
theorem Inv.lst {pins : List (Addr × Obj)} {σ : St} {H : Hp} {s : Shared} {p : Addr} {xs : List V} (I : Inv X pins σ H s) (h : H p = some (.lst xs)) :
  ∃ (its : List Value) (n : Nat), Vals xs its /\ s.heap.get? p = some { cls := .type "list", data := .seq its.toArray n } /\ xs.length <= sizeLine := by
 obtain ⟨z, its, n, r, e⟩ := I.hok p _ h
 exact ⟨its, n, r, e, z⟩
theorem Inv.lstUpd {pins : List (Addr × Obj)} {σ : St} {H : Hp} {s : Shared} {p : Addr} {xs ys : List V} {its its' : List Value} {n n' : Nat} {f : Obj -> Obj} (I : Inv X pins σ H s) (h : H p = some (.lst xs))
  (ho : s.heap.get? p = some { cls := .type "list", data := .seq its.toArray n }) (hf : f { cls := .type "list", data := .seq its.toArray n } = { cls := .type "list", data := .seq its'.toArray n' }) (r : Vals ys its') (hz : ys.length <= sizeLine) (t : Nat) :
  Inv X pins σ (upd H p (.lst ys)) { s with heap := s.heap.update p f, toks := t } := by
 have e : (s.heap.update p f).get? p = some { cls := .type "list", data := .seq its'.toArray n' } := by
  rw [Heap.get?_update_self f ho (by rw [hf] <;> rfl), hf]
 refine I.write (x := p) (e := p) (by rw [h]; trivial) (.inl rfl) (λ b u hb q => (Heap.get?_update_other _ _ (Ne.symm hb)).trans q) ⟨_, e⟩ ?_
 exact ⟨hz, its', n', r, e⟩
noncomputable def z4Y : V -> V -> V -> Hp -> (Hp -> Prop) -> Prop := λ o i v H Q => ∃ p xs k j, o = .ref p /\ i = .int k /\ H p = some (.lst xs) /\ ixN xs.length k = some j /\ Q (upd H p (.lst (xs.set j v)))
theorem q9Y : PSet X z4Y := by
 intro pins s σ H o i v ov iv u Q I ro ri rv h
 obtain ⟨p, xs, k, j, rfl, rfl, hp, hj, q⟩ := h
 cases ro
 obtain ⟨t, rfl⟩ := ri
 obtain ⟨its, n, r, ho, hz⟩ := I.lst hp
 obtain ⟨h1, h2, h3, h4⟩ := q8J hj
 have hl := r.length
 have hn := q3W
 have I' : Inv X pins σ (upd H p (.lst (xs.set j v))) { s with heap := s.heap.update p (Obj.mapSeq (·.setIfInBounds j u)) } :=
  I.lstUpd hp ho (q7s its n j u) (r.set rv j) (by rw [List.length_set]; exact hz) s.toks
 by_cases h0 : 0 <= k
 ·have hk : k.toNat = j := by
   rw [seqIndex_of h0 h4] at h1
   exact Option.some.inj h1
  exact PySem.W.ki_setAt ho h0 (by omega) (by rw [List.size_toArray, ← hl]; exact h4) (by rw [hk]; exact ⟨_, I', q⟩)
 ·have hk : (k + (its.toArray.size : Int)).toNat = j := by
   rw [seqIndex_neg (by omega) h3] at h1
   rw [List.size_toArray, ← hl]
   exact Option.some.inj h1
  exact PySem.W.ki_setBack ho (by omega) (by rw [List.size_toArray, ← hl]; exact h3) (by omega) (by rw [hk]; exact ⟨_, I', q⟩)
theorem q5B (lo hi : Option Int) (n : Nat) : (sliceBounds lo hi none n).1 = ((HT.sIx n 0 lo : Nat) : Int) /\ (sliceBounds lo hi none n).2.1 = ((HT.sIx n n hi : Nat) : Int) /\ (sliceBounds lo hi none n).2.2 = 1 := by
 refine ⟨?_, ?_, rfl⟩
 ·cases lo with
  | none => simp [sliceBounds, HT.sIx]
  | some i =>
   simp only [sliceBounds, HT.sIx, Option.getD_none, show (1 : Int) > 0 by decide, if_true]
   by_cases h : i < 0
   ·simp only [h, if_true] <;> omega
   ·simp only [h, if_false] <;> omega
 ·cases hi with
  | none => simp [sliceBounds, HT.sIx]
  | some i =>
   simp only [sliceBounds, HT.sIx, Option.getD_none, show (1 : Int) > 0 by decide, if_true]
   by_cases h : i < 0
   ·simp only [h, if_true] <;> omega
   ·simp only [h, if_false] <;> omega
theorem q4W (its : List Value) (lo hi : Option Int) : slicePick its.toArray lo hi none = ((its.drop (HT.sIx its.length 0 lo)).take (HT.sIx its.length its.length hi - HT.sIx its.length 0 lo)).toArray := by
 obtain ⟨h1, h2, h3⟩ := q5B lo hi its.toArray.size
 unfold slicePick
 rw [h1, h2, h3]
 simp only [sliceRange_one, pick_run, List.size_toArray] <;> rfl
noncomputable def rSlL (K : PySem.W.Frag) : V -> Option Int -> Option Int -> Hp -> VK -> Prop := λ x lo hi H Q => ∃ a xs, x = .ref a /\ SqL K H a xs /\ ∀ p, H p = none -> Q (.ref p) (upd H p (.lst (cutV xs lo hi)))
theorem z2F : SlR X (rSlL X.K) := by
 intro pins s σ H x v vl vu lo hi sl Q I rx hs pl pu h
 obtain ⟨a, xs, rfl, hx, q⟩ := h
 cases rx
 obtain ⟨its, r, ht, hz⟩ := I.list hx
 have hlen := r.length
 refine ⟨"list", _, slot_list_getitem.lookup, ht.isList.typeIs, ?_⟩
 refine wpAny_getItem_list_slice ht.isList hs pl pu .none (by simp) ?_ (by rw [List.size_toArray] <;> omega)
 rw [q4W, ← hlen]
 refine ⟨.ref s.heap.objs.size, _, I.laid (t' := s.toks) (o := .lst (cutV xs lo hi)) (λ b ob q => Heap.get?_push_of_some _ q) (Nat.le_refl _) ?_, rfl, q _ (I.hok.fresh (Nat.le_refl _))⟩
 exact ⟨Nat.le_trans (q3V xs lo hi) hz, _, 0, (r.drop (HT.sIx xs.length 0 lo)).take (HT.sIx xs.length xs.length hi - HT.sIx xs.length 0 lo), Heap.get?_push_size _ rfl⟩
theorem q2o : q1J X (.builtin "len") (λ xs H Q => ∃ p ys, xs = [.ref p] /\ (SqL X.K H p ys \/ SqT X.K H p ys) /\ Q (.int ys.length) H) := by
 intro pins s σ H xs us Q I r h
 obtain ⟨p, ys, rfl, hq, q⟩ := h
 obtain ⟨u, rfl, rx⟩ := q4A r
 cases rx
 have hn := q3W
 rcases hq with hq | hq
 ·obtain ⟨its, r', pl, hz⟩ := I.list hq
  have hlen := r'.length
  exact Calls.call_len_list pl.isList (by simp only [List.size_toArray] <;> omega) ⟨.int ys.length, H, I.tok _, ⟨s.toks + 1, by rw [List.size_toArray, hlen]⟩, q⟩
 ·obtain ⟨its, r', pl, hz⟩ := I.tuple hq
  have hlen := r'.length
  exact len_tuple pl (by simp only [List.size_toArray] <;> omega) ⟨.int ys.length, H, I.tok _, ⟨s.toks + 1, by rw [List.size_toArray, hlen]⟩, q⟩
theorem q5F : q1J X (.builtin "len") (λ xs H Q => ∃ z, xs = [.str z] /\ z.length <= sizeLine /\ Q (.int z.length) H) := by
 intro pins s σ H xs us Q I r h
 obtain ⟨z, rfl, hz, q⟩ := h
 obtain ⟨u, rfl, t, rfl⟩ := q4A r
 have hn := q3W
 exact len_str (by omega) ⟨.int z.length, H, I.tok _, ⟨_, rfl⟩, q⟩
theorem q2s : q1J X (.type "list") (λ xs H Q => ∃ p ys, xs = [.ref p] /\ (SqL X.K H p ys \/ SqT X.K H p ys) /\ ∀ l, H l = none -> Q (.ref l) (upd H l (.lst ys))) := by
 intro pins s σ H xs us Q I r h
 obtain ⟨p, ys, rfl, hq, q⟩ := h
 obtain ⟨u, rfl, rx⟩ := q4A r
 cases rx
 have fin : ∀ (its : List Value), Vals ys its -> ys.length <= sizeLine -> ∀ (h' : Heap) (c' : Nat), (∀ b o', s.heap.get? b = some o' -> h'.get? b = some o') ->
   h'.get? s.heap.objs.size = some { cls := .type "list", dict := none, data := .seq its.toArray c', slots := #[] } -> EP X pins σ Q (.ref s.heap.objs.size) { s with heap := h' } := λ its r' hz h' c' kp e =>
  ⟨.ref s.heap.objs.size, _, I.laid (t' := s.toks) kp (Nat.le_refl _) (show q1K X.prog X.w _ h' _ (.lst ys) from ⟨hz, its, c', r', e⟩), rfl, q _ (I.hok.fresh (Nat.le_refl _))⟩
 rcases hq with hq | hq
 ·obtain ⟨its, r', pl, hz⟩ := I.list hq
  have hlen := r'.length
  obtain ⟨o, ho, hc, n, hd⟩ := pl.isList
  exact call_list_seq p (.inl rfl) ho hc hd (λ h' c' kp e => fin its r' hz h' c' kp e) (by simp only [List.size_toArray] <;> omega)
 ·obtain ⟨its, r', pl, hz⟩ := I.tuple hq
  have hlen := r'.length
  obtain ⟨o, ho, hc, n, hd⟩ := pl
  exact call_list_seq p (.inr rfl) ho hc hd (λ h' c' kp e => fin its r' hz h' c' kp e) (by simp only [List.size_toArray] <;> omega)
theorem q2W : q1J X (.type "tuple") (λ xs H Q => ∃ p ys, xs = [.ref p] /\ ((SqL X.K H p ys /\ ∀ l, H l = none -> Q (.ref l) (upd H l (.tup ys))) \/ (SqT X.K H p ys /\ Q (.ref p) H))) := by
 intro pins s σ H xs us Q I r h
 obtain ⟨p, ys, rfl, h⟩ := h
 obtain ⟨u, rfl, rx⟩ := q4A r
 cases rx
 rcases h with ⟨hq, q⟩ | ⟨hq, q⟩
 ·obtain ⟨its, r', pl, hz⟩ := I.list hq
  have hlen := r'.length
  refine call_tuple_list pl.isList (λ h' kp => ?_) (by simp only [List.size_toArray] <;> omega)
  have I1 : Inv X pins σ H { s with heap := h' } := I.kept (t' := s.toks) kp
  have I2 : Inv X pins σ (upd H h'.objs.size (.tup ys)) { s with heap := h'.push { cls := .type "tuple", data := .seq its.toArray } } :=
   I1.laid (t' := s.toks) (λ b o e => Heap.get?_push_of_some _ e) (Nat.le_refl _) (show q1K X.prog X.w _ _ _ (.tup ys) from ⟨hz, its, r', q2D.new _ _⟩)
  exact ⟨.ref h'.objs.size, _, I2, rfl, q _ (I1.hok.fresh (Nat.le_refl _))⟩
 ·obtain ⟨its, r', pl, hz⟩ := I.tuple hq
  exact call_tuple_same pl ⟨.ref p, H, I, rfl, q⟩
noncomputable def tyV (K : PySem.W.Frag) (T : String) (x : V) (H : Hp) : Prop := match x with
 | .str _ => T = "str"
 | .int _ => T = "int"
 | .ref p => (T = "list" /\ ∃ xs, SqL K H p xs) \/ (T = "tuple" /\ ∃ o, K.lookup p = some o /\ o.cls = .type "tuple" /\ o.dict = none) \/
   (T = "dict" /\ ((∃ kvs, H p = some (.dK kvs)) \/ ∃ kvs, H p = some (.dT kvs))) \/ (T = "set" /\ ∃ S n, H p = some (.set S n))
 | _ => False
theorem z3b {pins : List (Addr × Obj)} {σ : St} {H : Hp} {s : Shared} {T : String} {x : V} {v : Value} (I : Inv X pins σ H s) (r : RelV x v) (ty : tyV X.K T x H) :
  s.TypeIs v T /\ ∀ a, v = .ref a -> ∃ ob, s.heap.get? a = some ob /\ ob.dict = none := by
 cases x with
 | str z =>
  obtain ⟨t, rfl⟩ := r
  cases (show T = "str" from ty)
  exact ⟨typeIs_str s z t, λ _ e => nomatch e⟩
 | int i =>
  obtain ⟨t, rfl⟩ := r
  cases (show T = "int" from ty)
  exact ⟨typeIs_int s i t, λ _ e => nomatch e⟩
 | ref p =>
  cases r
  rcases ty with ⟨rfl, xs, hq⟩ | ⟨rfl, o, hk, hc, hd⟩ | ⟨rfl, hk⟩ | ⟨rfl, S, n, hk⟩
  ·obtain ⟨its, _, pl, _⟩ := I.list hq
   refine ⟨pl.isList.typeIs, λ a e => ?_⟩
   cases e
   obtain ⟨o, n, e, c, hd, _⟩ := pl
   exact ⟨o, e, hd⟩
  ·refine ⟨⟨o, I.kIn p o hk, hc⟩, λ a e => ?_⟩
   cases e
   exact ⟨o, I.kIn _ o hk, hd⟩
  ·have z : ∃ o, s.heap.get? p = some o /\ o.ExactDict := by
    rcases hk with ⟨kvs, hk⟩ | ⟨kvs, hk⟩
    ·obtain ⟨_, _, _, _, o, _, _, e, ex, _⟩ := I.hok p _ hk
     exact ⟨o, e, ex⟩
    ·obtain ⟨_, _, _, _, o, _, _, e, ex, _⟩ := I.hok p _ hk
     exact ⟨o, e, ex⟩
   obtain ⟨o, e, ex⟩ := z
   refine ⟨⟨o, e, ex.1⟩, λ a e2 => ?_⟩
   cases e2
   exact ⟨o, e, ex.2.1⟩
  ·obtain ⟨o, _, _, _, e, ex, _⟩ := I.hok p _ hk
   refine ⟨⟨o, e, ex.1⟩, λ a e2 => ?_⟩
   cases e2
   exact ⟨o, e, ex.2.1⟩
 | _ => exact False.elim ty
noncomputable def tBM (K : PySem.W.Frag) (T : String) (r : V -> List V -> Hp -> VK -> Prop) (to : TE) (t : TA) : TE := λ σ H Q => to σ H λ x H1 => tyV K T x H1 /\ t σ H1 λ xs H2 => r x xs H2 Q
variable {o e : Expr} {es : List Expr} {to : TE} {t : TA} {name : Str} {apos cpos : Pos} {T id : String} {r : V -> List V -> Hp -> VK -> Prop}
theorem z3o (pa : PlainAttrs T) (slot : Slot T name id) (hty : typeOf (.builtin id) = pure (.type "method_descriptor")) (hm : MtR X id r) (ho : PE X o to) (ha : PA X (e :: es) t)
  (hbase : attributeBase o name X.env (eval o X.env) = eval o X.env := by rfl)
  (hfew : ((backTo cpos (starEach (e :: es) X.env)).all (λ x => !x.1) && (backToKw cpos (keywordEach [] X.env)).all (λ x => x.1.isSome)
   && decide ((e :: es).length + ([] : List Keyword).length + (if ([] : List Keyword).isEmpty then 0 else 1) < 30)) = true := by rfl)
  (hline : (apos.endLine == cpos.line) = true := by rfl) (hs : starEach (e :: es) X.env = (false, eval e X.env) :: starEach es X.env := by rfl) (hplain : (backTo cpos (starEach es X.env)).any (·.1) = false := by rfl) :
  PE X (.Call (.Attribute o name apos) (e :: es) [] cpos) (tBM X.K T r to t) := by
 intro pins s σ H Q I h
 refine wpAny_Call_method_late hbase hfew hline rfl (thn (ho pins s σ H _ I h) λ v s1 ⟨x, H1, I1, r1, ty, q1⟩ => ?_)
 obtain ⟨h1, h2⟩ := z3b I1 r1 ty
 refine ⟨T, id, pa, slot, hty, h1, h2, ?_⟩
 have hA := ha cpos pins s1 σ H1 _ I1 q1
 rw [hs] at hA ⊢
 refine Calls.callWith_builtin (by show (false || (backTo cpos (starEach es X.env)).any (·.1)) = false; rw [hplain] <;> rfl) (Calls.evalArgs_plain ?_)
 exact thn hA λ us s2 ⟨vs, H2, I2, r2, q2⟩ => hm pins s2 σ H2 x vs v us Q I2 r1 r2 q2
end
end L2
namespace L2
open PySem PySem.Spec PyProof.Rows
noncomputable def MtM (X : Cx) (id : String) (r : V -> List V -> Hp -> VK -> Prop) : Prop :=
 ∀ (pins : List (Addr × Obj)) (s : Shared) (σ : St) (H : Hp) (x : V) (xs : List V) (v : Value) (us : List Value) (Q : VK), Inv X pins σ H s -> RelV x v -> Vals xs us -> r x xs H Q ->
  wpAny (model X.prog X.w) X.A (call (.builtin id) (v :: us)) (EP X pins σ Q) X.xe s
theorem Vals.unc {x : V} {xs : List V} {us : List Value} (h : Vals (x :: xs) us) : ∃ u ws, us = u :: ws /\ RelV x u /\ Vals xs ws := by
 cases h with
 | cons r t => exact ⟨_, _, rfl, r, t⟩
theorem Vals.nl {us : List Value} (h : Vals [] us) : us = [] := by cases h; rfl
theorem Vals.one {x : V} {us : List Value} (h : Vals [x] us) : ∃ u, us = [u] /\ RelV x u := by
 obtain ⟨u, ws, rfl, r, t⟩ := h.unc
 cases t.nl
 exact ⟨_, rfl, r⟩
theorem Vals.two {x y : V} {us : List Value} (h : Vals [x, y] us) : ∃ u v, us = [u, v] /\ RelV x u /\ RelV y v := by
 obtain ⟨u, ws, rfl, r, t⟩ := h.unc
 obtain ⟨v, rfl, q⟩ := t.one
 exact ⟨_, _, rfl, r, q⟩
theorem Vals.rep {xs : List V} {us : List Value} (h : Vals xs us) : ∀ k : Nat, Vals (List.replicate k xs).flatten (List.replicate k us).flatten
 | 0 => .nil
 | k + 1 => by
  rw [List.replicate_succ, List.replicate_succ, List.flatten_cons, List.flatten_cons]
  exact Vals.append h (Vals.rep h k)
theorem q5l (its : List Value) : ∀ (k : Nat) (acc : List Value),
  List.foldl (λ x1 x2 => x1 ++ x2) acc.toArray (List.replicate k its.toArray) = (acc ++ (List.replicate k its).flatten).toArray
 | 0, acc => by simp
 | k + 1, acc => by
  have e : acc.toArray ++ its.toArray = (acc ++ its).toArray := by simp
  have e2 : (acc ++ its) ++ (List.replicate k its).flatten = acc ++ (List.replicate (k + 1) its).flatten := by
   rw [List.replicate_succ, List.flatten_cons, List.append_assoc]
  rw [← e2, ← q5l its k (acc ++ its), ← e, List.replicate_succ, List.foldl_cons]
section
variable {X : Cx} {pins : List (Addr × Obj)} {σ : St} {H : Hp} {s : Shared} {l b : Addr} {xs ys zs : List V}
theorem Inv.lset {its its' : List Value} {n : Nat} {f : Array Value -> Array Value} {t' : Nat} (I : Inv X pins σ H s) (hH : H l = some (.lst xs))
  (e : s.heap.get? l = some { cls := .type "list", data := .seq its.toArray n }) (hf : f its.toArray = its'.toArray) (hv : Vals ys its') (hz : ys.length <= sizeLine) :
  Inv X pins σ (upd H l (.lst ys)) { s with heap := s.heap.update l (Obj.mapSeq f), toks := t' } := by
 have q := PySem.IsL.update e f
 rw [hf] at q
 refine I.write (x := l) (e := l) (by rw [hH]; exact trivial) (.inl rfl) (λ b' u hb hu => (Heap.get?_update_other s.heap (Obj.mapSeq f) (Ne.symm hb)).trans hu) ⟨_, q⟩ ?_
 exact ⟨hz, its', _, hv, q⟩
theorem Inv.lnew {its : List Value} {t' : Nat} (I : Inv X pins σ H s) (hv : Vals ys its) (hz : ys.length <= sizeLine) :
  Inv X pins σ (upd H s.heap.objs.size (.lst ys)) { s with heap := s.heap.push { cls := .type "list", data := .seq its.toArray }, toks := t' } :=
 I.laid (λ _ _ q => Heap.get?_push_of_some _ q) (Nat.le_refl _) ⟨hz, its, 0, hv, Heap.get?_push_size _ rfl⟩
theorem Inv.fresh (I : Inv X pins σ H s) : H s.heap.objs.size = none := I.hok.fresh (Nat.le_refl _)
theorem Inv.lstM (I : Inv X pins σ H s) (hH : H l = some (.lst xs)) : xs.length <= sizeLine /\ ∃ (its : List Value) (n : Nat), Vals xs its /\ xs.length = its.length /\ s.heap.get? l = some { cls := .type "list", data := .seq its.toArray n } := by
 obtain ⟨z, its, n, r, e⟩ := I.hok l _ hH
 exact ⟨z, its, n, r, r.length, e⟩
theorem q6W {n : Nat} (h : n <= sizeLine) : Builtin.List.listTooLong n = false := by
 unfold Builtin.List.listTooLong
 exact decide_eq_false (by omega)
end
section
variable {X : Cx}
noncomputable def z2r : V -> List V -> Hp -> VK -> Prop := λ x vs H Q => ∃ l xs y, x = .ref l /\ vs = [y] /\ H l = some (.lst xs) /\ xs.length < sizeLine /\ Q .non (upd H l (.lst (xs ++ [y])))
theorem q8N : MtM X "list.append" z2r := by
 intro pins s σ H x vs v us Q I rx rv h
 obtain ⟨l, xs, y, rfl, rfl, hH, hz, q⟩ := h
 cases rx
 obtain ⟨u, rfl, ru⟩ := rv.one
 obtain ⟨z, its, n, r, hl, e⟩ := I.lstM hH
 refine call_meets F.slot_list_append ⟨_, e, rfl⟩ F.entry_list_append (F.args_list_append_2 _ _) (PySem.list_append l its.toArray n u (by rw [List.size_toArray]; omega)) ⟨e, ?_⟩
 refine ⟨.non, _, I.lset (its' := its ++ [u]) hH e (by simp) (r.append (.cons ru .nil)) ?_, rfl, q⟩
 rw [List.length_append, List.length_singleton]
 omega
noncomputable def rCat : R2 := λ x y H Q => ∃ l b xs zs, x = .ref l /\ y = .ref b /\ H l = some (.lst xs) /\ H b = some (.lst zs) /\ xs.length + zs.length <= sizeLine /\ ∀ p, H p = none -> Q (.ref p) (upd H p (.lst (xs ++ zs)))
theorem z4t : OpR X (binaryOp .Add) rCat := by
 intro pins s σ H x y v u Q I rx ry h
 obtain ⟨l, b, xs, zs, rfl, rfl, hH, hB, hz, q⟩ := h
 cases rx
 cases ry
 obtain ⟨z, its, n, r, hl, e⟩ := I.lstM hH
 obtain ⟨z2, its2, n2, r2, hl2, e2⟩ := I.lstM hB
 refine PySem.P.add_list e e2 ?_ (by rw [List.size_toArray, List.size_toArray]; omega)
 have ea : its.toArray ++ its2.toArray = (its ++ its2).toArray := by simp
 rw [ea]
 exact ⟨.ref _, _, I.lnew (t' := s.toks) (r.append r2) (by rw [List.length_append]; omega), rfl, q _ I.fresh⟩
noncomputable def rRep : R2 := λ x y H Q => ∃ l k xs, x = .ref l /\ y = .int k /\ H l = some (.lst xs) /\ -(2 ^ 63) <= k /\ k < 2 ^ 63 /\ xs.length * k.toNat <= sizeLine /\
 ∀ p, H p = none -> Q (.ref p) (upd H p (.lst (List.replicate k.toNat xs).flatten))
theorem z0Y {α : Type} (xs : List α) (k : Nat) : (List.replicate k xs).flatten.length = k * xs.length := by
 induction k with
 | zero => simp
 | succ k ih => rw [List.replicate_succ, List.flatten_cons, List.length_append, ih, Nat.succ_mul, Nat.add_comm]
theorem z2V : OpR X (binaryOp .Mult) rRep := by
 intro pins s σ H x y v u Q I rx ry h
 obtain ⟨l, k, xs, rfl, rfl, hH, h1, h2, hz, q⟩ := h
 cases rx
 obtain ⟨t, rfl⟩ := ry
 obtain ⟨z, its, n, r, hl, e⟩ := I.lstM hH
 have hlen : its.toArray.size * k.toNat <= sizeLine := by rw [List.size_toArray, ← hl]; exact hz
 have hcap : ¬ its.toArray.size * k.toNat > (2 ^ 63 - 1) / 8 := by
  have : (sizeLine : Nat) <= (2 ^ 63 - 1) / 8 := by decide
  omega
 have hfit : ¬ (!Builtin.List.listFitsIndex k) = true := by
  rw [fitsIndex_both h1 h2]
  exact Bool.false_ne_true
 have hlong : ¬ Builtin.List.listTooLong (its.toArray.size * k.toNat) = true := by
  rw [q6W hlen]
  exact Bool.false_ne_true
 have hnew : List.foldl (λ x1 x2 => x1 ++ x2) #[] (List.replicate (if its.toArray.isEmpty = true then 0 else k.toNat) its.toArray) = (List.replicate k.toNat its).flatten.toArray := by
  have f0 : ∀ m : Nat, List.foldl (λ x1 x2 => x1 ++ x2) #[] (List.replicate m its.toArray) = (List.replicate m its).flatten.toArray := λ m => by
   have := q5l its m []
   rw [List.nil_append] at this
   exact this
  rw [f0]
  cases its with
  | nil => simp
  | cons a r' => rw [if_neg (by simp)]
 refine wpAny_binaryOp_repeat_ref (T := "list") (U := "int") (by decide) ⟨_, e, rfl⟩ (λ s' => typeIs_int s' k t) noFill_list_mul F.fills_int_mul F.slot_int_rmul repeat_list F.slot_int_index.lookup
  (call_meets F.slot_int_rmul (typeIs_int s k t) F.entry_int_rmul (F.args_int_rmul_2 _ _) (int___rmul___int_list k t l its.toArray n)
   ⟨e, rfl, ⟨_, e, rfl⟩, call_meets F.slot_list_mul ⟨_, e, rfl⟩ F.entry_list_mul (F.args_list_mul_2 _ _) (AutoListH.list___mul___list_int_3 l its.toArray n k t hfit hcap hlong) ⟨e, ?_⟩⟩)
 rw [hnew]
 exact ⟨.ref _, _, I.lnew (t' := s.toks) (r.rep k.toNat) (by rw [z0Y, Nat.mul_comm]; exact hz), rfl, q _ I.fresh⟩
end
section
variable {prog : Program} {w : World} {A : Around} {E : Value -> Shared -> Prop} {s : Shared}
end
section
variable {X : Cx}
end
end L2
namespace Att
open PySem PySem.W PySem.Calls PyProof.Rows
theorem q4d {P : Params} {h : Heap} : ∀ (ns : List Int) (vs : List Value), WellAll P h vs (ns.map WData.int) -> IntsAre vs ns := by
 intro ns
 induction ns with
 | nil =>
  intro vs w
  rw [List.map_nil] at w
  cases w
  exact .nil
 | cons n ns ih =>
  intro vs w
  rw [List.map_cons] at w
  cases w with
  | cons a b =>
   cases a
   exact .cons _ _ (ih _ b)
theorem q7N {l : OpenLaw} {n : Nat} (hn : l.most = some n) {P : Params} {h : Heap} {args : List WData} {vals : List Value}
  (hpre : l.row.toRowW.claim.pre args = true) (hwl : WellAll P h vals args) :
  ∃ a vs ns, vals = [Value.ref a] /\ args = [WData.list (ns.map WData.int)] /\ h.get? a = some { cls := .type "list", data := .seq vs.toArray } /\ IntsAre vs ns /\ ns.length <= n := by
 have hsh : WShape.hasAll [] args [.list .int] = true := (pre_splitW hpre).1
 have hc : l.pre.holds [] { args := args } = true := (pre_splitW hpre).2
 obtain ⟨d, r, rfl, h1, h2⟩ := hasAllW_cons hsh
 obtain rfl := hasAllW_nil h2
 obtain ⟨xs, rfl, h3⟩ := hasW_list h1
 obtain ⟨ns, rfl⟩ := items_int h3
 have hlen : ns.length <= n := by
  unfold OpenLaw.pre at hc
  have h4 : (WTm.not (.lt (.lit (.int (n : Int))) (.len (.arg 0)))).holds [] { args := [.list (ns.map .int)] } = true := by
   have h4 := (holds_andW hc).1
   rw [hn] at h4
   exact h4
  have h5 := condW_of h4 (w_not (w_lt w_lit (w_len_list (w_arg rfl))))
  rw [List.length_map] at h5
  refine Nat.le_of_not_lt λ q => ?_
  have q' : (n : Int) < ((ns.length : Nat) : Int) := by omega
  first
   | (rw [decide_eq_true q'] at h5; exact absurd h5 (by decide))
   | (simp at h5; omega)
 cases hwl with
 | cons w1 w2 =>
  cases w2
  cases w1 with
  | list ho hall => exact ⟨_, _, ns, rfl, rfl, ho, q4d ns _ hall, hlen⟩
theorem q8B (l : OpenLaw) (args : List WData) : l.row.toRowW.claim.post args (.bool true) args = true :=
 postW_of (r := l.row.toRowW) (X := (true == true))
  (show WShape.has [] (.bool true) .bool = true by first | rfl | decide | simp [WShape.has, WShape.arms, WShape.armsAll])
  (show (WTm.eq .res (.lit (.bool true))).value [] { args := args, res := some (.bool true), after := args } = some (.bool (true == true)) from w_eq_bool (w_res rfl) w_lit) rfl
theorem attach_call {l : OpenLaw} {n : Nat} {q : Program} {loose : List Str} {XP : (Str -> Option Value) -> Heap -> Prop} {YP : World -> Heap -> Prop} {d : DefRec}
  (hn : l.most = some n) (hdf : d.params.defaults = [])
  (call : ∀ (w : World) (s₀ s₁ : Shared) (mg mb : Str -> Option Value) (fa : Addr) (o : Obj) (pm cd doc : Value) (a : Addr) (vs : List Value) (ns : List Int),
   Ground q loose [] XP w s₀ mg mb s₁.heap -> YP w s₁.heap ->
   s₁.heap.get? fa = some o -> o.data = .func (docDef d.name d.params d.body d.scope pm cd doc) -> s₁.heap.CodeRec cd d.name -> mg d.name = some (.ref fa) ->
   s₁.heap.get? a = some { cls := .type "list", data := .seq vs.toArray } -> IntsAre vs ns -> ns.length <= n -> s₁.gens = #[] ->
   codeAny (model l.prog w) callerA (.call (.ref fa) ⟨[.ref a], []⟩) (λ r s' => r = .ok (.ret (.bool true)) /\ OldK s₁.heap s'.heap /\ s'.os = s₁.os /\ AllBare s'.gens) s₁) :
  WalkO q loose XP YP l.row.toRowW d [] (λ f vs => PySem.call f vs) := by
 intro w s₀ s₁ mg mb G Y fa o pm cd doc dV kV ho hd hcd hD hmg hg args vals as hpre hlay hrd hwl hlo
 obtain rfl : dV = .none := Dflts.none hD hdf
 obtain rfl : kV = .none := Dflts.noKw hD
 obtain ⟨a, vs, ns, rfl, rfl, hobj, hints, hlen⟩ := q7N hn hpre hwl
 refine enter_call (codeAny_mono (call w s₀ s₁ mg mb fa o pm cd doc a vs ns G Y ho (fd_plain hd) hcd hmg hobj hints hlen hg) λ r s' hq => ?_)
 obtain ⟨rfl, h2, h3, h4⟩ := hq
 exact ⟨.inl ⟨.bool true, .bool true, [], rfl, λ _ => rfl, .bool true, q8B l _, λ _ => ⟨List.Pairwise.nil, λ _ hm => (nomatch hm)⟩⟩, h2, h3, h4⟩
section
variable {prog : Program} {w : World} {A : Around} {E : Value -> Shared -> Prop} {s : Shared} {K : Frag}
noncomputable def z6c (h : Heap) (L d : Addr) : List (Addr × Obj) := (List.range h.objs.size).filterMap λ a => if a = L \/ a = d then none else (h.get? a).map λ o => (a, o)
end
end Att
namespace L2
open PySem PySem.Spec PyProof.Rows
theorem q5n : ∀ {vs : List Value} {ns : List Int}, IntsAre vs ns -> Vals (ns.map V.int) vs
 | _, _, .nil => .nil
 | _, _, .cons n t h => .cons ⟨t, rfl⟩ (q5n h)
noncomputable def Only (H : Hp) : Prop := ∀ b, H b = none \/ ∃ o xs, H b = some (.frz o (.lst xs))
theorem q9w {P : Program} {w : World} {K : PySem.W.Frag} {mg mb : Str -> Option Value} {CX : CXT} {k : Nat} {fa a : Addr} {fd : FuncData} {x : Str} {sp : Sp} {s₁ : Shared} {vs : List Value} {ns : List Int}
  (KX : K.In s₁.heap) (hns : s₁.heap.Ns mainGlobals mg) (hb : s₁.heap.Ns builtinsNs mb) (hbb : ∀ x : Str, x ≠ "__name__" -> mb x = bootBuiltins x) (hlim : s₁.heap.NoLimit) (hg : s₁.gens = #[])
  (ha : s₁.heap.get? a = some { cls := .type "list", data := .seq vs.toArray }) (hi : IntsAre vs ns) (hl : ns.length <= sizeLine) (hr : Room k callerA)
  (F : ∀ base : Heap, K.In base -> base.Ns mainGlobals mg -> FnOk P w K mg base CX k fa fd [x] sp) (hbind : ∀ (s : Shared) (u : Value), BindsTo s fd ⟨[u], []⟩ [(x, u)])
  (hsp : ∀ H : Hp, Only H -> SqL K H a (ns.map V.int) -> sp [.ref a] H (λ v _ => v = .bl true) λ _ _ _ => False)
  (hCX : ∀ H e s', CX [] H s₁ (λ _ _ _ => False) e s' -> False) :
  codeAny (model P w) callerA (.call (.ref fa) ⟨[.ref a], []⟩) (λ r s' => r = .ok (.ret (.bool true)) /\ OldK s₁.heap s'.heap /\ s'.os = s₁.os /\ AllBare s'.gens) s₁ := by
 have rv := q5n hi
 have lenV := hi.length
 have core : ∀ H : Hp, Only H -> SqL K H a (ns.map V.int) -> HOk P w H s₁.heap -> (∀ b, H b ≠ none -> b = a) -> (H a ≠ none -> K.lookup a = none) ->
   codeAny (model P w) callerA (.call (.ref fa) ⟨[.ref a], []⟩) (λ r s' => r = .ok (.ret (.bool true)) /\ OldK s₁.heap s'.heap /\ s'.os = s₁.os /\ AllBare s'.gens) s₁ := by
  intro H hO hS hok hA hK
  have base_of : ∀ {b : Addr} {o : Obj}, s₁.heap.get? b = some o -> H b = none -> (hidT s₁.heap H).get? b = some o := λ e n => z0a e n
  have noA : ∀ {b : Addr} {o : Obj} {es : Array DictEntry} {ep : Nat}, s₁.heap.get? b = some o -> o.data = .dict es ep -> H b = none := λ {b o es ep} e d => by
   cases q : H b with
   | none => rfl
   | some u =>
    have e' : b = a := hA b (by rw [q]; simp)
    subst e'
    rw [ha] at e; cases e
    have d' : Data.seq vs.toArray _ = Data.dict es ep := d
    cases d'
  have nsK : ∀ {b : Addr} {m : Str -> Option Value}, s₁.heap.Ns b m -> (hidT s₁.heap H).Ns b m := λ {b m} ⟨o, es, ep, e, d, r⟩ => ⟨o, es, ep, base_of e (noA e d), d, r⟩
  have hKb : K.In (hidT s₁.heap H) := λ b o e => base_of (KX b o e) (by
   cases q : H b with
   | none => rfl
   | some u =>
    have e' : b = a := hA b (by rw [q]; simp)
    subst e'
    rw [hK (by rw [q]; simp)] at e; cases e)
  have hM : Mod K mg (hidT s₁.heap H) := ⟨hKb, nsK hns, ⟨mb, nsK hb, hbb⟩, let ⟨mc, h1, h2⟩ := hlim; ⟨mc, nsK h1, h2⟩⟩
  have e0 : Env0 P w K mg (hidT s₁.heap H) callerA [] s₁ H := ⟨rfl, hM, λ b o e => z2A e, Nat.le_of_eq (q8E _ _), trivial, λ b hb => absurd (show b ∈ ([] : List Addr) from hb) (by simp), hok, .of_eq hg⟩
  refine codeAny_mono ((F _ hKb (nsK hns)).run callerA [] s₁ H ⟨[.ref a], []⟩ [.ref a] [.ref a] _ _ hr e0 (hbind s₁ (.ref a)) (.cons rfl .nil) (hsp H hO hS)) λ r s' h => ?_
  cases r with
  | error e => exact (hCX H e s' h).elim
  | ok fl =>
   cases fl with
   | next => exact False.elim h
   | brk => exact False.elim h
   | cont => exact False.elim h
   | ret u =>
    obtain ⟨v, H', os, bare, un, hok', r', q⟩ := h
    have q' : v = .bl true := q
    subst q'
    obtain rfl : u = Value.bool true := r'
    refine ⟨rfl, OldK.of_keep λ b o e => ?_, os, bare⟩
    cases q : H b with
    | none => exact un.keep b o e q (by intro z; exact absurd (show b ∈ ([] : List Addr) from z) (by simp)) (by simp)
    | some u =>
     rcases hO b with z | ⟨ob, xs, z⟩
     ·rw [q] at z; cases z
     ·have z2 := un.frzs b ob _ z
      obtain ⟨e1, _⟩ := hok b _ z
      obtain ⟨e2, _⟩ := hok' b _ z2
      rw [e] at e1; cases e1
      exact e2
 cases hk : K.lookup a with
 | some o =>
  have e := KX a o hk
  rw [ha] at e
  cases e
  refine core (λ _ => none) (λ _ => .inl rfl) (.inr ⟨_, vs.toArray, _, hk, rfl, rfl, rfl, by rw [List.size_toArray, lenV]; exact hl, by simpa using rv⟩) (λ b u z => by have z' : (none : Option HO) = some u := z; cases z') (λ b z => absurd rfl z) λ z => absurd rfl z
 | none =>
  refine core (λ b => if b = a then some (.frz { cls := .type "list", data := .seq vs.toArray } (.lst (ns.map V.int))) else none) (λ b => ?_) (.inl (.inr ⟨{ cls := .type "list", data := .seq vs.toArray }, if_pos rfl⟩)) (λ b u z => ?_) (λ b z => ?_) λ _ => hk
  ·by_cases hb : b = a
   ·exact .inr ⟨_, _, if_pos hb⟩
   ·exact .inl (if_neg hb)
  ·by_cases hb : b = a
   ·have z' := (if_pos hb).symm.trans z
    cases z'
    subst hb
    exact ⟨ha, by rw [List.length_map]; exact hl, vs, _, rv, ha⟩
   ·have z' := (if_neg hb).symm.trans z
    cases z'
  ·by_cases hb : b = a
   ·exact hb
   ·exact absurd (if_neg hb) z
end L2
namespace L2
open PySem PySem.Spec PyProof.Rows
noncomputable abbrev KOf {K : PySem.W.Frag} {h : Heap} (_ : K.In h) : PySem.W.Frag := K
theorem walk_of {l : PySem.W.OpenLaw} {n k : Nat} {q : Program} {loose : List Str} {XP : (Str -> Option Value) -> Heap -> Prop} {YP : World -> Heap -> Prop} {d : DefRec} {K : Params -> PySem.W.Frag} {CX : World -> CXT} {sp : World -> Sp} {x : Str}
  (hn : l.most = some n) (hn2 : n <= sizeLine) (hdf : d.params.defaults = []) (hr : Room k callerA)
  (hY : ∀ (w : World) (h : Heap), YP w h -> (K w.params).In h)
  (F : ∀ (w : World) (mg : Str -> Option Value) (fa : Addr) (h : Heap), (K w.params).In h -> h.Ns mainGlobals mg -> mg d.name = some (.ref fa) ->
   ∃ fd : FuncData, (∀ (s : Shared) (u : Value), BindsTo s fd ⟨[u], []⟩ [(x, u)]) /\
    ∀ base : Heap, (K w.params).In base -> base.Ns mainGlobals mg -> FnOk l.prog w (K w.params) mg base (CX w) k fa fd [x] (sp w))
  (hsp : ∀ (w : World) (H : Hp) (a : Addr) (ns : List Int), ns.length <= n -> Only H -> SqL (K w.params) H a (ns.map V.int) -> sp w [.ref a] H (λ v _ => v = .bl true) λ _ _ _ => False)
  (hCX : ∀ (w : World) (H : Hp) (s : Shared) (e : Value) (s' : Shared), CX w [] H s (λ _ _ _ => False) e s' -> False) :
  PySem.W.WalkO q loose XP YP l.row.toRowW d [] (λ f vs => PySem.call f vs) := by
 refine Att.attach_call hn hdf λ w s₀ s₁ mg mb fa o pm cd doc a vs ns G Y ho hd hcd hmg hobj hints hlen hg => ?_
 have KX := hY w _ Y
 obtain ⟨fd, hb, hF⟩ := F w mg fa _ KX G.T.g hmg
 exact q9w KX G.T.g G.T.b G.T.builtins G.T.nolimit hg hobj hints (Nat.le_trans hlen hn2) hr hF hb (λ H hO hS => hsp w H a ns hlen hO hS) λ H e s' => hCX w H s₁ e s'
end L2
namespace L2
open PySem PySem.Spec PyProof.Rows
noncomputable def q0o (s : Stmt) : Arguments := match s with
 | .FunctionDef _ a _ _ _ _ _ _ _ _ => a
 | _ => { posonlyargs := [], args := [], vararg := none, kwonlyargs := [], kw_defaults := [], kwarg := none, defaults := [] }
noncomputable def q0m (s : Stmt) : List Stmt := match s with
 | .FunctionDef _ _ b _ _ _ _ _ _ _ => b
 | _ => []
noncomputable def q0d (s : Stmt) : Scope := match s with
 | .FunctionDef _ _ _ _ _ _ sc _ _ _ => sc
 | _ => { kind := .function, names := [], isGenerator := false, isCoroutine := false }
noncomputable abbrev CX0 : CXT := λ _ _ _ _ _ _ => False
noncomputable abbrev E0 : XK := λ _ _ _ => False
structure Fun (K : PySem.W.Frag) (x qual : Str) (st : Stmt) (f : Addr) (fd : FuncData) : Prop where
 ex : ∃ (oc : Value) (od : Option Addr) (kV doc pm : Value) (an : Option Addr) (cdv ct : Value) (osl : Array (Option Value)),
  fd = PySem.W.fnOf x qual (q0o st) (q0m st) (q0d st) .none kV doc pm an cdv ct /\ K.lookup f = some ⟨oc, od, .func fd, osl⟩ /\ PySem.W.codeIn K cdv qual = true
 kp : PySem.W.keepIn K (.ref f) = true
section
variable {P : Program} {w : World} {K : PySem.W.Frag} {mg : Str -> Option Value} {base : Heap}
end
section
variable {X : Cx}
end
theorem iteF {A B : Prop} (h : B) : if false = true then A else B := by
 rw [if_neg Bool.false_ne_true]
 exact h
theorem iteT {A B : Prop} (h : A) : if true = true then A else B := by
 rw [if_pos rfl]
 exact h
noncomputable def Same (H H' : Hp) : Prop := ∀ b o, H b = some o -> H' b = some o
theorem Same.refl (H : Hp) : Same H H := λ _ _ h => h
theorem Same.trans {H H1 H2 : Hp} (a : Same H H1) (b : Same H1 H2) : Same H H2 := λ c o h => b c o (a c o h)
theorem Same.free {H H' : Hp} (e : Same H H') {l : Addr} (h : H' l = Option.none) : H l = Option.none := by
 cases q : H l with
 | none => rfl
 | some o =>
  rw [e l o q] at h
  cases h
theorem Same.seq {K : PySem.W.Frag} {H H' : Hp} {a : Addr} {xs : List V} (e : Same H H') (h : SqL K H a xs) : SqL K H' a xs := by
 rcases h with (h | ⟨o, h⟩) | h
 ·exact .inl (.inl (e _ _ h))
 ·exact .inl (.inr ⟨o, e _ _ h⟩)
 ·exact .inr h
end L2
end
section
namespace L2
open PySem PySem.Spec PyProof.Rows
noncomputable def q0n (cells : List (Str × Addr)) : List (Str × NameKind) -> List (Str × Addr) -> List (Str × Addr)
 | [], acc => acc
 | (n, k) :: r, acc => if (k == NameKind.free) = true then q0n cells r ((n, (cells.lookup n).getD 0) :: acc) else q0n cells r acc
theorem q1R {env : Env} : ∀ (names : List (Str × NameKind)) (acc : List (Str × Addr)), (∀ y ∈ names, y.2 = NameKind.free -> ∃ c, env.cells.lookup y.1 = some c) ->
  (forIn names acc (λ (x : Str × NameKind) (cs : List (Str × Addr)) => (match x with | (name, kind) => if (kind == NameKind.free) = true then (do let a ← cellOf env name; pure (ForInStep.yield ((name, a) :: cs))) else pure (ForInStep.yield cs) : Sem (ForInStep (List (Str × Addr))))) : Sem (List (Str × Addr))) = pure (q0n env.cells names acc)
 | [], acc, _ => rfl
 | (n, k) :: r, acc, h => by
  have hr : ∀ y ∈ r, y.2 = NameKind.free -> ∃ c, env.cells.lookup y.1 = some c := λ y hy => h y (List.mem_cons_of_mem _ hy)
  rw [List.forIn_cons]
  by_cases hk : (k == NameKind.free) = true
  ·obtain ⟨c, hc⟩ := h (n, k) List.mem_cons_self (beq_iff_eq.mp hk)
   have e1 : cellOf env n = pure c := by unfold cellOf; rw [hc]
   have e2 : q0n env.cells ((n, k) :: r) acc = q0n env.cells r ((n, c) :: acc) := by
    show (if (k == NameKind.free) = true then q0n env.cells r ((n, (env.cells.lookup n).getD 0) :: acc) else q0n env.cells r acc) = _
    rw [if_pos hk, hc]; rfl
   rw [e2, ← q1R r ((n, c) :: acc) hr]
   simp only [hk, if_true, e1]
   rfl
  ·have e2 : q0n env.cells ((n, k) :: r) acc = q0n env.cells r acc := by
    show (if (k == NameKind.free) = true then q0n env.cells r ((n, (env.cells.lookup n).getD 0) :: acc) else q0n env.cells r acc) = _
    rw [if_neg hk]
   rw [e2, ← q1R r acc hr]
   simp only [hk, if_false]
   rfl
theorem q2r {scope : Scope} {env : Env} (h : ∀ y ∈ scope.names, y.2 = NameKind.free -> ∃ c, env.cells.lookup y.1 = some c) : closureFor scope env = pure (q0n env.cells scope.names []) := by
 have q := q1R (env := env) scope.names [] h
 unfold closureFor
 first
  | exact (congrArg (λ t => (t >>= λ cs => pure cs)) q).trans rfl
  | (simp only [q]; rfl)
theorem q2a {cells : List (Str × Addr)} : ∀ {names : List (Str × NameKind)} {acc : List (Str × Addr)} {x : Str} {c : Addr}, (∀ y ∈ names, y.2 = NameKind.free -> ∃ c, cells.lookup y.1 = some c) ->
  (x, c) ∈ q0n cells names acc -> (x, c) ∈ acc \/ (cells.lookup x = some c /\ (x, NameKind.free) ∈ names)
 | [], acc, x, c, _, h => .inl h
 | (n, k) :: r, acc, x, c, hh, h => by
  have hr : ∀ y ∈ r, y.2 = NameKind.free -> ∃ c, cells.lookup y.1 = some c := λ y hy => hh y (List.mem_cons_of_mem _ hy)
  unfold q0n at h
  by_cases hk : (k == NameKind.free) = true
  ·rw [if_pos hk] at h
   obtain ⟨c', hc⟩ := hh (n, k) List.mem_cons_self (beq_iff_eq.mp hk)
   rcases q2a hr h with z | ⟨z1, z2⟩
   ·rcases List.mem_cons.mp z with z | z
    ·cases z
     exact .inr ⟨by rw [hc]; rfl, by rw [← beq_iff_eq.mp hk]; exact List.mem_cons_self⟩
    ·exact .inl z
   ·exact .inr ⟨z1, List.mem_cons_of_mem _ z2⟩
  ·rw [if_neg hk] at h
   rcases q2a hr h with z | ⟨z1, z2⟩
   ·exact .inl z
   ·exact .inr ⟨z1, List.mem_cons_of_mem _ z2⟩
theorem q1Z {cells : List (Str × Addr)} : ∀ {names : List (Str × NameKind)} {acc : List (Str × Addr)} {y : Str × Addr}, y ∈ acc -> y ∈ q0n cells names acc
 | [], _, _, h => h
 | (n, k) :: r, acc, y, h => by
  unfold q0n
  split
  ·exact q1Z (List.mem_cons_of_mem _ h)
  ·exact q1Z h
theorem q2f {cells : List (Str × Addr)} : ∀ {names : List (Str × NameKind)} {acc : List (Str × Addr)} {x : Str} {c : Addr}, (x, NameKind.free) ∈ names -> cells.lookup x = some c -> (x, c) ∈ q0n cells names acc
 | (n, k) :: r, acc, x, c, h, hc => by
  unfold q0n
  rcases List.mem_cons.mp h with z | z
  ·cases z
   rw [if_pos (show (NameKind.free == NameKind.free) = true from rfl), hc]
   exact q1Z List.mem_cons_self
  ·split
   ·exact q2f z hc
   ·exact q2f z hc
theorem q1j : ∀ (names : List (Str × NameKind)) (n : Nat) (acc : List (Str × Addr)), cellsFrom n names acc = cellsFrom n names [] ++ acc
 | [], _, _ => rfl
 | (x, k) :: r, n, acc => by
  unfold cellsFrom
  split
  ·rw [q1j r (n + 1) ((x, n) :: acc), q1j r (n + 1) [(x, n)], List.append_assoc]; rfl
  ·exact q1j r n acc
theorem q2j : ∀ {names : List (Str × NameKind)} {n : Nat} {x : Str} {c : Addr}, (x, c) ∈ cellsFrom n names [] -> (x, NameKind.cell) ∈ names
 | [], _, _, _, h => nomatch h
 | (y, k) :: r, n, x, c, h => by
  unfold cellsFrom at h
  by_cases hk : (k == NameKind.cell) = true
  ·rw [if_pos hk, q1j] at h
   rcases List.mem_append.mp h with z | z
   ·exact List.mem_cons_of_mem _ (q2j z)
   ·have z' : (x, c) = (y, n) := by simpa using z
    cases z'
    rw [beq_iff_eq.mp hk]; exact List.mem_cons_self
  ·rw [if_neg hk] at h
   exact List.mem_cons_of_mem _ (q2j h)
theorem q1X {α : Type} {x : Str} : ∀ {l r : List (Str × α)}, (l ++ r).lookup x = (l.lookup x).or (r.lookup x)
 | [], r => by simp
 | (y, v) :: l, r => by
  rw [List.cons_append, List.lookup_cons, List.lookup_cons]
  cases hb : x == y with
  | true => rfl
  | false => exact q1X
theorem q2I {α : Type} {x : Str} : ∀ {l : List (Str × α)}, (∀ c, (x, c) ∉ l) -> l.lookup x = none
 | [], _ => rfl
 | (y, v) :: l, h => by
  rw [List.lookup_cons]
  cases hb : x == y with
  | true => exact absurd (by rw [beq_iff_eq.mp hb]; exact List.mem_cons_self) (h v)
  | false => exact q2I λ c hc => h c (List.mem_cons_of_mem _ hc)
theorem q2F {α : Type} {x : Str} : ∀ {l : List (Str × α)} {c : α}, (x, c) ∈ l -> ∃ c', l.lookup x = some c'
 | (y, v) :: l, c, h => by
  rw [List.lookup_cons]
  cases hb : x == y with
  | true => exact ⟨v, rfl⟩
  | false =>
   rcases List.mem_cons.mp h with z | z
   ·cases z; rw [beq_self_eq_true] at hb; cases hb
   ·exact q2F z
theorem q0H {α : Type} {x : Str} : ∀ {l : List (Str × α)} {c : α}, (l.map (·.1)).Nodup -> (x, c) ∈ l -> l.lookup x = some c
 | (y, v) :: l, c, nd, h => by
  rw [List.lookup_cons]
  rw [List.map_cons] at nd
  have nd' := List.nodup_cons.mp nd
  rcases List.mem_cons.mp h with z | z
  ·cases z; rw [beq_self_eq_true]
  ·have : x ≠ y := λ e => nd'.1 (by rw [← e]; exact List.mem_map.mpr ⟨_, z, rfl⟩)
   rw [beq_eq_false_iff_ne.mpr this]
   exact q0H nd'.2 z
theorem q1Q {scope : Scope} {env : Env} {x : Str} : (relabel scope env).names.lookup x = (scope.names.lookup x).map λ k => if (k == NameKind.free && env.scope.kind == .function && env.kindOf x == some .cell) = true then NameKind.cell else k := by
 unfold relabel
 show (scope.names.map _).lookup x = _
 generalize scope.names = l
 induction l with
 | nil => rfl
 | cons y r ih =>
  obtain ⟨n, k⟩ := y
  rw [List.map_cons]
  show List.lookup x ((if (k == NameKind.free && env.scope.kind == .function && env.kindOf n == some .cell) = true then (n, NameKind.cell) else (n, k)) :: _) = _
  have e : (if (k == NameKind.free && env.scope.kind == .function && env.kindOf n == some .cell) = true then (n, NameKind.cell) else (n, k)) = (n, if (k == NameKind.free && env.scope.kind == .function && env.kindOf n == some .cell) = true then NameKind.cell else k) := by split <;> rfl
  rw [e, List.lookup_cons, List.lookup_cons]
  cases hb : x == n with
  | true => rw [beq_iff_eq.mp hb]; rfl
  | false => exact ih
theorem q6i {M : Model} {A : Around} {E : Value -> Shared -> Prop} {s : Shared} {scope : Scope} {g : Addr} {cl : List (Str × Addr)} {q : Str} {env : Env} {Q : Env -> Shared -> Prop}
  (hQ : Q (newEnv scope s.heap.objs.size g (cellsFrom (s.heap.objs.size + 1) scope.names cl) q none .none (some env) builtinsNs) { s with heap := pushCells (s.heap.push { cls := .type "dict", data := .dict #[] }) scope.names }) :
  wpAny M A (newFunctionEnv scope g cl [] q none .none (some env)) Q E s := by
 simp only [newFunctionEnv, Option.isSome_some, if_true]
 refine wpAny_bind (wpAny_alloc ?_)
 refine wpAny_bind (wpAny_layCells _ (λ name kind cells => by cases hkc : kind == NameKind.cell <;> simp [hkc]) _ _ _ _ ?_)
 rw [show ({ s with heap := s.heap.push { cls := .type "dict", data := .dict #[] } } : Shared).heap.objs.size = s.heap.objs.size + 1 from Heap.size_push ..]
 exact wpAny_bind (wpAny_pure (wpAny_pure hQ))
theorem q5y {prog : Program} {w : World} {A : Around} {R : Result -> Shared -> Prop} {s : Shared} {elt target iter : Expr} {ifs : List Expr} {scope : Scope} {pos : Pos} {it acc : Value} {env : Env} (I : Nat -> Shared -> Prop)
  (turn : ∀ n s, I n s -> wpAny (model prog w) A (pyNext it) (λ r s₁ => match r with
   | none => R (.ok .next) s₁
   | some v => wpAny (model prog w) A (letOwnedTupleGo target it v) (λ _ s₁' => wpAny (model prog w) A (assign target env v) (λ _ s₂ =>
     wpAny (model prog w) A (forIn ifs true λ c r => if r = true then do let ok ← isTrue c env (eval c env); pure (ForInStep.yield ok) else pure (ForInStep.yield r)) (λ ok s₃ =>
      if ok = true then wpAny (model prog w) A (eval elt env) (λ x s₄ =>
       wpAny (model prog w) A (call (.builtin "list.append") [acc, x]) (λ _ s₅ => ∃ m, m < n /\ I m s₅) (notedBy (model prog w) A env λ e s' => R (.error e) s') s₄) (notedBy (model prog w) A env λ e s' => R (.error e) s') s₃
      else ∃ m, m < n /\ I m s₃) (notedBy (model prog w) A env λ e s' => R (.error e) s') s₂) (notedBy (model prog w) A env λ e s' => R (.error e) s') s₁') (notedBy (model prog w) A env λ e s' => R (.error e) s') s₁) (notedBy (model prog w) A env λ e s' => R (.error e) s') s)
  (n : Nat) (h : I n s) :
  codeAny (model prog w) A (.compLoop (.ListComp elt [⟨target, iter, ifs, 0⟩] scope pos) 0 it acc env) R s := by
 refine codeAny_loop rfl I (λ n s hI => ?_) n h
 show wpAny _ A ((compTurn (.ListComp elt [⟨target, iter, ifs, 0⟩] scope pos) 0 it acc env).onRaise (λ x => do noteFrame x env; theTreesLotGoes x)) _ _ s
 refine wpAny_noted ?_
 rw [compTurn_list]
 refine wpAny_bind (wpAny_standAt (wpAny_bind (wpAny_mono (turn n s hI) (λ r s₁ h₁ => ?_) λ _ _ h' => h')))
 cases r with
 | none => exact wpAny_pure h₁
 | some v =>
  refine wpAny_bind (wpAny_mono h₁ (λ _ s₁' h₁' => ?_) λ _ _ h' => h')
  refine wpAny_bind (wpAny_mono h₁' (λ _ s₂ h₂ => wpAny_bind (wpAny_mono h₂ (λ ok s₃ h₃ => ?_) λ _ _ h' => h')) λ _ _ h' => h')
  cases ok with
  | false => exact wpAny_pure ⟨rfl, h₃⟩
  | true =>
   exact wpAny_bind (wpAny_bind (wpAny_mono h₃ (λ x s₄ h₄ => wpAny_bind (wpAny_mono h₄ (λ _ s₅ h₅ => wpAny_pure (wpAny_pure ⟨rfl, h₅⟩)) λ _ _ h' => h')) λ _ _ h' => h'))
theorem HOk.track {P : Program} {w : World} {H : Hp} {h : Heap} {a : Addr} {o : HO} (x : HOk P w H h) (hn : H a = none) (new : q1K P w (upd H a o) h a o) : HOk P w (upd H a o) h := λ b u e => by
 by_cases hb : b = a
 ·subst hb; rw [q0V] at e; cases e; exact new
 ·rw [q0w hb] at e
  exact (x b u e).stay (λ c v _ q => q) (λ c q => by rw [q0w (q0t q hn)]; exact q) λ c xs q => by rw [q0w (q0t q hn)]; exact q
theorem Un.track {fs ex : List Addr} {H H' : Hp} {h h' : Heap} {a : Addr} {o : HO} (u : Un fs ex H H' h h') (hn : H' a = none) (hh : h.get? a = none) : Un fs ex H (upd H' a o) h h' where
 keep := u.keep
 slot := u.slot
 free := λ b ob q n hx => by
  have : b ≠ a := λ z => by rw [z, hh] at q; cases q
  rw [q0w this]; exact u.free b ob q n hx
 there := u.there
 tups := λ b xs q => by have z := u.tups b xs q; rw [q0w (q0t z hn)]; exact z
 frzs := λ b ob xs q => by have z := u.frzs b ob xs q; rw [q0w (q0t z hn)]; exact z
 tbls := λ b ps q => by
  obtain ⟨m, z⟩ := u.tbls b ps q
  exact ⟨m, by rw [q0w (q0t z hn)]; exact z⟩
structure CompScope (N N' : List Str) (sc osc : Scope) (fr : List (Option Nat)) : Prop where
 kind : sc.kind = .function
 nd : N'.Nodup
 snd : (sc.names.map (·.1)).Nodup
 len : fr.length = N'.length
 fre : ∀ (j i : Nat), fr[j]? = some (some i) -> ∃ x, N'[j]? = some x /\ N[i]? = some x /\ (x, NameKind.free) ∈ sc.names
 out : ∀ y ∈ sc.names, y.2 = NameKind.free -> osc.names.lookup y.1 = some .cell \/ osc.names.lookup y.1 = some .free
noncomputable def inner (fr : List (Option Nat)) (σ : St) : St := fr.map λ o => o.bind λ i => (σ[i]?).join
noncomputable def q0u (X : Cx) (scope : Scope) (N' : List Str) (C : Addr) (cells : List (Str × Addr)) (s₂ : Shared) (H₂ : Hp) (fp : List Addr) : Cx :=
 { X with N := N', s₀ := s₂, H₀ := H₂, env := compEnvC scope cells C X.env, outer := X.stack, stack := X.stack, ex := fp, fn := λ x => scope.names.lookup x == some .cell, pn := [], xe := λ _ _ => False }
section
variable {X : Cx} {pins : List (Addr × Obj)} {σ : St} {H : Hp} {s₂ : Shared} {N' : List Str} {scope : Scope} {fr : List (Option Nat)} {fp : List Addr}
noncomputable abbrev q1V : Obj := { cls := .type "list", dict := none, data := .seq ([] : List Value).toArray }
noncomputable abbrev q5w : Obj := { cls := .type "dict", data := .dict #[] }
theorem z0h (S : CompScope X.N N' scope X.env.scope fr) (I : Inv X pins σ H s₂) (f : ∀ b ∈ fp, FpOk X pins H b) (ho : ∀ b ∈ fp, @LT.lt Nat _ b s₂.heap.objs.size) {C : Nat} (hC : C = s₂.heap.objs.size + 1) {h4 : Heap} (h4e : h4 = pushCells ((s₂.heap.push q1V).push q5w) scope.names) :
  Inv (q0u X scope N' C (cellsFrom (C + 1) scope.names (q0n X.env.cells scope.names [])) s₂ H fp) [] (inner fr σ) H { s₂ with heap := h4 } /\ h4.get? s₂.heap.objs.size = some q1V /\ (∀ b o, s₂.heap.get? b = some o -> h4.get? b = some o) := by
 have hsz1 : (s₂.heap.push q1V).objs.size = s₂.heap.objs.size + 1 := Heap.size_push ..
 have hsz2 : ((s₂.heap.push q1V).push q5w).objs.size = C + 1 := by rw [Heap.size_push, hsz1, hC]
 have keep : ∀ b o, s₂.heap.get? b = some o -> h4.get? b = some o := λ b o e => by rw [h4e]; exact pushCells_keeps _ _ b o (Heap.get?_push_of_some _ (Heap.get?_push_of_some _ e))
 have hD : h4.get? s₂.heap.objs.size = some q1V := by rw [h4e]; exact pushCells_keeps _ _ _ _ (Heap.get?_push_of_some _ (Heap.get?_push_size _ rfl))
 have hns : h4.Ns C λ _ => none := by
  have q := (Heap.Ns.new (s₂.heap.push q1V) (.type "dict")).keeps (pushCells_keeps scope.names _)
  rw [hsz1, ← hC] at q
  rw [h4e]; exact q
 have ok := cellsFrom_ok scope.names ((s₂.heap.push q1V).push q5w) (C + 1) [] ⟨λ _ _ hm => (nomatch hm), List.Pairwise.nil⟩ (by rw [hsz2]; exact Nat.le_refl _)
 rw [hsz2, ← h4e] at ok
 have hfree : ∀ y ∈ scope.names, y.2 = NameKind.free -> ∃ c, X.env.cells.lookup y.1 = some c := λ y hy hk => I.ok.has y.1 (S.out y hy hk)
 generalize hcl : q0n X.env.cells scope.names [] = cl
 have memcl : ∀ {x : Str} {c : Addr}, (x, c) ∈ cl -> X.env.cells.lookup x = some c /\ (x, NameKind.free) ∈ scope.names := λ {x c} hm => by
  rw [← hcl] at hm
  rcases q2a hfree hm with z | z
  ·exact nomatch z
  ·exact z
 generalize hown : cellsFrom (C + 1) scope.names [] = own at ok
 have app : cellsFrom (C + 1) scope.names cl = own ++ cl := by rw [q1j, hown]
 rw [app]
 have memown : ∀ {x : Str} {c : Addr}, (x, c) ∈ own -> (x, NameKind.cell) ∈ scope.names := λ {x c} hm => by rw [← hown] at hm; exact q2j hm
 have L1 : ∀ x c, (own ++ cl).lookup x = some c -> ((x, c) ∈ own) \/ (X.env.cells.lookup x = some c /\ (x, NameKind.free) ∈ scope.names /\ own.lookup x = none) := λ x c e => by
  rw [q1X] at e
  cases q : own.lookup x with
  | some c' => rw [q] at e; cases e; exact .inl (PySem.mem_of_lookup q)
  | none => rw [q] at e; have z := memcl (PySem.mem_of_lookup (show cl.lookup x = some c from e)); exact .inr ⟨z.1, z.2, rfl⟩
 have own_ge : ∀ {x : Str} {c : Nat}, (x, c) ∈ own -> @LE.le Nat _ (C + 1) c := λ {x c} hm => (ok.empty x c hm).2
 have cell_lt : ∀ {x : Str} {c : Nat}, X.env.cells.lookup x = some c -> @LT.lt Nat _ c s₂.heap.objs.size := λ {x c} e => by
  obtain ⟨v, z⟩ := I.cell x c e
  exact z.lt
 have free_no : ∀ {x : Str}, (x, NameKind.free) ∈ scope.names -> own.lookup x = none := λ {x} hm => by
  refine q2I λ c hc => ?_
  have a := q0H S.snd hm
  have b := q0H S.snd (memown hc)
  rw [a] at b; cases b
 have cl_get : ∀ {x : Str} {c : Addr}, (x, NameKind.free) ∈ scope.names -> X.env.cells.lookup x = some c -> (own ++ cl).lookup x = some c := λ {x c} hm hc => by
  rw [q1X, free_no hm]
  obtain ⟨c', e⟩ := q2F (l := cl) (by rw [← hcl]; exact q2f hm hc)
  have z := (memcl (PySem.mem_of_lookup e)).1
  rw [hc] at z; cases z
  exact e
 have hX : (q0u X scope N' C (own ++ cl) s₂ H fp).Ok := by
  refine ⟨I.ok.mod, S.kind, I.ok.glob, I.ok.blt, ?_, λ x y c h1 h2 => ?_, λ x hx => ?_, λ x c hf hc => ?_, I.ok.hd, I.ok.frames, .inl rfl, λ b hb => ⟨?_, λ x c e => ?_⟩, I.bs, Nat.le_trans I.ok.bsz I.sz, λ b o e hb => ?_, λ b hb hs => ?_, I.stack, I.stkFree⟩
  ·show s₂.heap.objs.size <= C
   rw [hC]; exact Nat.le_succ _
  ·have h1 : (own ++ cl).lookup x = some c := h1
   have h2 : (own ++ cl).lookup y = some c := h2
   rcases L1 x c h1 with a | ⟨a, _⟩ <;> rcases L1 y c h2 with b | ⟨b, _⟩
   ·exact name_of_addr ok.apart a b
   ·exfalso; have q1 := own_ge a; have q2 := cell_lt b; omega
   ·exfalso; have q1 := own_ge b; have q2 := cell_lt a; omega
   ·exact I.ok.inj x y c a b
  ·have hx' : (relabel scope X.env).names.lookup x = some .cell \/ (relabel scope X.env).names.lookup x = some .free := hx
   show ∃ c, (own ++ cl).lookup x = some c
   rw [q1Q] at hx'
   cases q : scope.names.lookup x with
   | none => rw [q] at hx'; rcases hx' with z | z <;> cases z
   | some k =>
    have km := PySem.mem_of_lookup q
    by_cases k1 : k = .cell
    ·subst k1
     have z := PySem.W.cellsFrom_some scope.names (C + 1) [] (.inl q)
     rw [hown] at z
     obtain ⟨c, z⟩ := Option.isSome_iff_exists.mp z
     exact ⟨c, by rw [q1X, z]; rfl⟩
    ·by_cases k2 : k = .free
     ·subst k2
      obtain ⟨c, e⟩ := hfree _ km rfl
      exact ⟨c, cl_get km e⟩
     ·exfalso
      rw [q] at hx'
      have e0 : (k == NameKind.free) = false := beq_eq_false_iff_ne.mpr k2
      simp only [Option.map_some, e0, Bool.false_and] at hx'
      rcases hx' with z | z
      ·exact k1 (by simpa using z)
      ·exact k2 (by simpa using z)
  ·have hf' : (scope.names.lookup x == some .cell) = true := hf
   have q : scope.names.lookup x = some .cell := by simpa using hf'
   have z := PySem.W.cellsFrom_some scope.names (C + 1) [] (.inl q)
   rw [hown] at z
   obtain ⟨c', z⟩ := Option.isSome_iff_exists.mp z
   have hc' : (own ++ cl).lookup x = some c := hc
   rw [q1X, z] at hc'
   have e : c' = c := Option.some.inj hc'
   subst e
   have := own_ge (PySem.mem_of_lookup z)
   show @LE.le Nat _ s₂.heap.objs.size c'
   omega
  ·have := ho b hb
   show @Ne Nat b C
   omega
  ·rcases L1 x c e with a | ⟨a, _⟩
   ·have := own_ge a; have := ho b hb; show @Ne Nat c b; omega
   ·exact (f b hb).2.2.2.2.1 x c a
  ·rcases (f b hb).2.2.2.1 with z | z
   ·exact I.ok.noex b o e z
   ·exact absurd (Nat.lt_of_lt_of_le (Heap.lt_size e) (Nat.le_trans I.ok.bsz z)) (Nat.lt_irrefl _)
  ·rcases List.mem_cons.mp (I.stkSub b hs) with z | z
   ·exact (f b hb).2.1 z
   ·exact (f b hb).2.2.1 z
 refine ⟨⟨hX, rfl, I.bare, Un.kept keep, ⟨_, hns, λ i x v e1 e2 e3 => ?_⟩, λ x c e => ?_, I.hok.fresh (by show @LE.le Nat _ s₂.heap.objs.size C; omega), λ x c e => ?_, λ p hp => absurd (show p ∈ ([] : List (Addr × Obj)) from hp) (by simp), I.hok.kept keep, ?_⟩, hD, keep⟩
 ·have e1 : N'[i]? = some x := e1
  unfold inner at e2
  rw [List.getElem?_map] at e2
  cases q : fr[i]? with
  | none => rw [q] at e2; cases e2
  | some o =>
   rw [q] at e2
   cases o with
   | none => cases e2
   | some j =>
    have e2' : (σ[j]?).join = some v := Option.some.inj e2
    have hv : σ[j]? = some (some v) := by
     cases z : σ[j]? with
     | none => rw [z] at e2'; cases e2'
     | some o => rw [z] at e2'; rw [show o = some v from e2']
    obtain ⟨x', a1, a2, a3⟩ := S.fre i j q
    rw [e1] at a1; cases a1
    obtain ⟨m, hn, hl⟩ := I.loc
    have ko := S.out _ a3 rfl
    obtain ⟨u, r, l⟩ := hl j x v a2 hv (ko.elim (λ z => .inr (.inl z)) λ z => .inr (.inr z))
    rcases l with ⟨k, _⟩ | ⟨k, c, e, z⟩
    ·have k' : X.env.scope.names.lookup x = some .local := k
     rcases ko with w | w <;> (rw [show X.env.scope.names.lookup x = _ from w] at k'; cases k')
    ·refine ⟨u, r, .inr ⟨?_, c, cl_get a3 e, z.keeps keep⟩⟩
     show (relabel scope X.env).names.lookup x = some .cell \/ (relabel scope X.env).names.lookup x = some .free
     rw [q1Q, q0H S.snd a3]
     simp only [Option.map_some]
     split
     ·exact .inl rfl
     ·exact .inr rfl
 ·rcases L1 x c e with a | ⟨a, _⟩
  ·exact ⟨none, (ok.empty x c a).1⟩
  ·obtain ⟨v, z⟩ := I.cell x c a
   exact ⟨v, z.keeps keep⟩
 ·rcases L1 x c e with a | ⟨a, _⟩
  ·exact I.hok.fresh (by have := own_ge a; show @LE.le Nat _ s₂.heap.objs.size c; omega)
  ·exact I.freeC x c a
 ·show (inner fr σ).length = N'.length
  unfold inner
  rw [List.length_map, S.len]
end
noncomputable def PTs (X : Cx) (ifs : List Expr) (t : TT) : Prop :=
 ∀ (pins : List (Addr × Obj)) (s : Shared) (σ : St) (H : Hp) (Q : Bool -> Hp -> Prop), Inv X pins σ H s -> t σ H Q ->
  wpAny (model X.prog X.w) X.A (forIn ifs true λ c r => if r = true then do let ok ← isTrue c X.env (eval c X.env); pure (ForInStep.yield ok) else pure (ForInStep.yield r)) (TP X pins σ Q) X.xe s
noncomputable def tYes : TT := λ _ H Q => Q true H
theorem z2z {X : Cx} : PTs X [] tYes := λ _ _ _ H _ I h => wpAny_tests_nil ⟨H, I, h⟩
theorem z1s {X : Cx} {c : Expr} {t : TT} (h : PT X c t) : PTs X [c] t := λ pins s σ H Q I hq => wpAny_tests_one (h pins s σ H Q I hq)
noncomputable def z0Z (J : It) (g : TG) (tc : TT) (te : TE) (Fin : List V -> Hp -> Prop) (σ : St) (H : Hp) : Prop :=
 ∃ W : Nat -> Nat -> List V -> St -> Hp -> Prop, (∃ m, W 0 m [] σ H) /\ ∀ i m ys σ H, W i m ys σ H ->
  (J.stop i H /\ Fin ys H) \/ (J.go i H /\ ys.length < sizeLine /\ ∀ x H', J.yld i H x H' -> g x σ H' λ σ2 H2 => tc σ2 H2 λ b H3 =>
   if b = true then te σ2 H3 λ y H4 => ∃ m', m' < m /\ W (i + 1) m' (ys ++ [y]) σ2 H4 else ∃ m', m' < m /\ W (i + 1) m' ys σ2 H3)
theorem Vals.snoc {xs : List V} {us : List Value} {x : V} {u : Value} (r : Vals xs us) (q : RelV x u) : Vals (xs ++ [x]) (us ++ [u]) := r.append (.cons q .nil)
theorem q6z {X : Cx} {pins : List (Addr × Obj)} {σ : St} {H : Hp} {s₂ : Shared} {N' : List Str} {scope : Scope} {fr : List (Option Nat)} {fp : List Addr} {iter elt tg : Expr} {ifs : List Expr} {pos : Pos} {g : TG} {te : TE} {tc : TT} {it : Addr} {tn : Nat -> Heap -> Prop} {J : It}
  {E : Value -> Shared -> Prop} {Fin : List V -> Hp -> Prop} {RR : Value -> Addr -> Result -> Shared -> Prop}
  (S : CompScope X.N N' scope X.env.scope fr) (hc : X.calm = true)
  (hg : ∀ C cells s₂ H₂ fp, PG (q0u X scope N' C cells s₂ H₂ fp) tg g) (ht : ∀ C cells s₂ H₂ fp, PTs (q0u X scope N' C cells s₂ H₂ fp) ifs tc) (he : ∀ C cells s₂ H₂ fp, PE (q0u X scope N' C cells s₂ H₂ fp) elt te)
  (I : Inv X pins σ H s₂) (T : Turn X.prog X.w X.K tg J fp it tn) (st : tn 0 s₂.heap) (f : ∀ b ∈ fp, FpOk X pins H b) (h : z0Z J g tc te Fin (inner fr σ) H)
  (hRR : ∀ D C H' s' m ys, Inv X pins σ (upd H' D (.lst ys)) s' -> H' D = none -> s'.heap.Ns C m -> upd H' D (.lst ys) C = none -> C ≠ X.env.locals -> X.s₀.heap.objs.size <= C -> (∀ x c, X.env.cells.lookup x = some c -> c ≠ C) -> (∀ p ∈ X.pn ++ pins, p.1 ≠ C) -> Fin ys H' -> RR (.ref D) C (.ok .next) s') :
  wpAny (model X.prog X.w) X.A (newList []) (λ acc s₃ => wpAny (model X.prog X.w) X.A (newFunctionEnv scope X.env.globals (q0n X.env.cells scope.names []) [] X.env.qual none .none (some X.env)) (λ cenv s₄ =>
   codeAny (model X.prog X.w) X.A (.compStart (.ListComp elt [⟨tg, iter, ifs, 0⟩] scope pos) 0 (.ref it) acc { cenv with scope := relabel scope X.env }) (RR acc cenv.locals) s₄) E s₃) E s₂ := by
 have ho : ∀ b ∈ fp, b < s₂.heap.objs.size := λ b hb => by
  obtain ⟨o, e, _⟩ := T.obj _ _ st b hb
  exact Heap.lt_size e
 refine wpAny_newObj_type (q6i ?_)
 have hsz1 : (s₂.heap.push q1V).objs.size = s₂.heap.objs.size + 1 := Heap.size_push ..
 obtain ⟨I4, hD4, keep⟩ := z0h (C := s₂.heap.objs.size + 1) S I f ho rfl rfl
 show codeAny _ _ (.compStart _ 0 (.ref it) (.ref s₂.heap.objs.size) (compEnvC scope (cellsFrom ((s₂.heap.push q1V).objs.size + 1) scope.names (q0n X.env.cells scope.names [])) (s₂.heap.push q1V).objs.size X.env)) (RR (.ref s₂.heap.objs.size) (s₂.heap.push q1V).objs.size) { s₂ with heap := pushCells ((s₂.heap.push q1V).push q5w) scope.names }
 rw [hsz1]
 generalize hDe : s₂.heap.objs.size = D at *
 generalize cellsFrom (D + 1 + 1) scope.names (q0n X.env.cells scope.names []) = cells at *
 generalize pushCells ((s₂.heap.push q1V).push q5w) scope.names = h4 at *
 have hfp : ∀ {pins' : List (Addr × Obj)} {H' : Hp}, (∀ b ∈ fp, H' b = none) -> (∀ p ∈ pins', p.1 = D) -> ∀ b ∈ fp, FpOk (q0u X scope N' (D + 1) cells s₂ H fp) pins' H' b := λ {pins' H'} hn hp b hb =>
  ⟨hn b hb, (I4.ok.exf b hb).1, I4.ok.exfs b hb, .inl hb, (I4.ok.exf b hb).2, λ p hp' z => by
   have hp' : p ∈ ([] : List (Addr × Obj)) ++ pins' := hp'
   rw [List.nil_append] at hp'
   have := ho b hb
   rw [← z, hp p hp'] at this
   exact Nat.lt_irrefl _ this⟩
 obtain ⟨W, ⟨m0, w0⟩, turn⟩ := h
 have hDC : D ≠ (q0u X scope N' (D + 1) cells s₂ H fp).env.locals := by show D ≠ D + 1; omega
 have hDcell : ∀ x c, (q0u X scope N' (D + 1) cells s₂ H fp).env.cells.lookup x = some c -> c ≠ D := λ x c e z => by
  obtain ⟨v, o, hoc, hd⟩ := I4.cell x c e
  have q : h4.get? D = some o := by rw [← z]; exact hoc
  rw [hD4] at q; cases q; cases hd
 have hDfs : D ∉ (q0u X scope N' (D + 1) cells s₂ H fp).fs := λ z => by
  obtain ⟨_, o, ho', _⟩ := I4.ok.funs.mem z
  have := Heap.lt_size ho'
  have e : s₂.heap.objs.size = D := hDe
  exact absurd this (by show ¬ D < s₂.heap.objs.size; omega)
 have loop : codeAny (model X.prog X.w) X.A (.compLoop (.ListComp elt [⟨tg, iter, ifs, 0⟩] scope pos) 0 (.ref it) (.ref D) (compEnvC scope cells (D + 1) X.env)) (RR (.ref D) (D + 1)) { s₂ with heap := h4 } := by
  refine q5y (λ n s' => ∃ i ys its k σ' H', Inv (q0u X scope N' (D + 1) cells s₂ H fp) [] σ' H' s' /\ tn i s'.heap /\ (∀ b ∈ fp, H' b = none) /\ H' D = none /\
   s'.heap.get? D = some { cls := .type "list", data := .seq (its : List Value).toArray k } /\ Vals ys its /\ ys.length <= sizeLine /\ W i n ys σ' H') ?_ m0
   ⟨0, [], [], _, _, H, I4, T.keep _ _ _ st λ b _ o e => keep b o e, λ b hb => (f b hb).1, I.hok.fresh (by omega), hD4, .nil, Nat.zero_le _, w0⟩
  rintro n s3 ⟨i, ys, its, k, σ3, H3, I3, st3, fr3, hD3, oD3, rv, hl, w3⟩
  have I3p : Inv (q0u X scope N' (D + 1) cells s₂ H fp) [(D, { cls := .type "list", data := .seq its.toArray k })] σ3 H3 s3 := I3.pins_of λ p hp => by
   have e : p = (D, { cls := .type "list", data := .seq its.toArray k }) := by simpa using hp
   subst e
   exact ⟨oD3, hD3, hDC, hDfs, λ v z => by cases z⟩
  have pinD : ∀ p ∈ [((D : Addr), ({ cls := .type "list", data := .seq its.toArray k } : Obj))], p.1 = D := λ p hp => by
   have e : p = (D, { cls := .type "list", data := .seq its.toArray k }) := by simpa using hp
   subst e; rfl
  rcases turn i n ys σ3 H3 w3 with ⟨stop, fin⟩ | ⟨go, hlt, step⟩
  ·refine thn (T.done (q0u X scope N' (D + 1) cells s₂ H fp) rfl rfl rfl hc i _ s3 σ3 H3 _ I3p (hfp fr3 pinD) st3 stop) λ r s4 ⟨hr, I4'⟩ => ?_
   subst hr
   have oD := (I4'.pin (D, _) (List.mem_append_right _ List.mem_cons_self)).1
   have un : Un (frs X.stack) fp H H3 s₂.heap s4.heap := I4'.base
   have hn : s₂.heap.get? D = none := Heap.get?_none_of_le (by rw [hDe]; exact Nat.le_refl _)
   obtain ⟨mC, hnC, _⟩ := I4'.loc
   refine hRR D (D + 1) H3 s4 mC ys (I.call' I4'.os (un.track hD3 hn) (I4'.hok.track hD3 ⟨hl, its, k, rv, oD⟩) I4'.bare λ b hb => ?_) hD3 hnC ?_ ?_ ?_ (λ x c e => ?_) (λ p hp => ?_) fin
   ·obtain ⟨_, f1, f2, f3, f4, f5⟩ := f b hb
    exact ⟨f3, f1, f4, f5⟩
   ·rw [q0w (show @Ne Nat (D + 1) D by omega)]; exact I4'.free
   ·have q : @LT.lt Nat _ X.env.locals s₂.heap.objs.size := I.lt
    show @Ne Nat (D + 1) X.env.locals
    omega
   ·have q : @LE.le Nat _ X.s₀.heap.objs.size s₂.heap.objs.size := I.sz
    show @LE.le Nat _ X.s₀.heap.objs.size (D + 1)
    omega
   ·obtain ⟨v, z⟩ := I.cell x c e
    have q : @LT.lt Nat _ c s₂.heap.objs.size := z.lt
    show @Ne Nat c (D + 1)
    omega
   ·have q : @LT.lt Nat _ p.1 s₂.heap.objs.size := Heap.lt_size (I.pin p hp).1
    show @Ne Nat p.1 (D + 1)
    omega
  ·refine thn (T.item (q0u X scope N' (D + 1) cells s₂ H fp) rfl rfl rfl hc i _ s3 σ3 H3 _ I3p (hfp fr3 pinD) st3 go) λ r s4 ⟨u, hr, h4'⟩ => ?_
   subst hr
   refine thn h4' λ _ s5 ⟨x, H5, I5, r5, y5, st5, fr5⟩ => ?_
   have I5' := I5.pinned (hfp fr5 pinD) (T.obj _ _ st5)
   refine wpAny_mono (hg (D + 1) cells s₂ H fp _ s5 σ3 H5 x u _ I5' r5 (step x H5 y5)) (λ _ s6 ⟨σ6, H6, I6, q6⟩ => ?_) λ _ _ z => z.elim
   refine wpAny_mono (ht (D + 1) cells s₂ H fp _ s6 σ6 H6 _ I6 q6) (λ b s7 ⟨H7, I7, q7⟩ => ?_) λ _ _ z => z.elim
   have fpK : ∀ {H' : Hp} {s' : Shared}, Inv (q0u X scope N' (D + 1) cells s₂ H fp) ([(D, { cls := .type "list", data := .seq its.toArray k })] ++ q5K fp s5.heap) σ6 H' s' -> tn (i + 1) s'.heap /\ (∀ b ∈ fp, H' b = none) /\ s'.heap.get? D = some { cls := .type "list", data := .seq its.toArray k } /\ H' D = none := λ {H' s'} J' => by
    refine ⟨T.keep _ _ _ st5 λ b hb o e => (J'.pin (b, o) (List.mem_append_right _ (List.mem_append_right _ (q2u hb e)))).1, λ b hb => ?_, ?_, ?_⟩
    ·obtain ⟨o, e, d⟩ := T.obj _ _ st5 b hb
     exact (J'.pin (b, o) (List.mem_append_right _ (List.mem_append_right _ (q2u hb e)))).2.1
    ·exact (J'.pin (D, _) (List.mem_append_right _ (List.mem_append_left _ List.mem_cons_self))).1
    ·exact (J'.pin (D, _) (List.mem_append_right _ (List.mem_append_left _ List.mem_cons_self))).2.1
   cases b with
   | false =>
    rw [if_neg Bool.false_ne_true] at q7 ⊢
    obtain ⟨m', hm, w7⟩ := q7
    obtain ⟨k1, k2, k3, k4⟩ := fpK I7
    exact ⟨m', hm, i + 1, ys, its, k, σ6, H7, I7.pins_of (λ p hp => (nomatch hp)), k1, k2, k4, k3, rv, hl, w7⟩
   | true =>
    rw [if_pos rfl] at q7 ⊢
    refine wpAny_mono (he (D + 1) cells s₂ H fp _ s7 σ6 H7 _ I7 q7) (λ y s8 ⟨v8, H8, I8, r8, q8⟩ => ?_) λ _ _ z => z.elim
    obtain ⟨m', hm, w8⟩ := q8
    obtain ⟨k1, k2, k3, k4⟩ := fpK I8
    have hits : its.length <= sizeLine := by rw [← rv.length]; exact hl
    refine append_at k3 (λ h9 hs9 hD9 => ?_) (by rw [List.size_toArray]; exact hits)
    have I9 : Inv (q0u X scope N' (D + 1) cells s₂ H fp) [] σ6 H8 s8 := I8.pins_of λ p hp => (nomatch hp)
    refine ⟨m', hm, i + 1, ys ++ [v8], its ++ [y], k + 1, σ6, H8, I9.turned (it := D) (t' := s8.toks) (λ b o hb e => (hs9.2 b hb).trans e) k4 hDC (.inr (by show s₂.heap.objs.size <= D; omega)) hDcell (λ p hp => (nomatch hp)), ?_, k2, k4, ?_, rv.snoc r8, ?_, w8⟩
    ·exact T.keep _ _ _ k1 λ b hb o e => (hs9.2 b (by have q : @LT.lt Nat _ b D := ho b hb; show @Ne Nat b D; omega)).trans e
    ·rw [hD9, List.push_toArray]
    ·rw [List.length_append, List.length_singleton]; omega
 exact codeAny_compStart_list loop (T.self X.A 0 _ _ _ (T.keep _ _ _ st λ b _ o e => keep b o e) loop)
noncomputable def z2n (fr : List (Option Nat)) (wi : TI) (g : TG) (tc : TT) (te : TE) : TE := λ σ H Q => wi σ H λ J H1 => z0Z J g tc te (λ ys H' => ∀ p, H' p = none -> Q (.ref p) (upd H' p (.lst ys))) (inner fr σ) H1
theorem z1z {X : Cx} {N' : List Str} {scope : Scope} {fr : List (Option Nat)} {iter elt tg : Expr} {ifs : List Expr} {pos : Pos} {wi : TI} {g : TG} {te : TE} {tc : TT} (S : CompScope X.N N' scope X.env.scope fr) (hc : X.calm = true) (hi : PI X tg iter wi)
  (hg : ∀ C cells s₂ H₂ fp, PG (q0u X scope N' C cells s₂ H₂ fp) tg g) (ht : ∀ C cells s₂ H₂ fp, PTs (q0u X scope N' C cells s₂ H₂ fp) ifs tc) (he : ∀ C cells s₂ H₂ fp, PE (q0u X scope N' C cells s₂ H₂ fp) elt te)
  (hs : ∀ x, foldedSetIterable iter X.env x = pure x := by intro _; rfl) : PE X (.ListComp elt [⟨tg, iter, ifs, 0⟩] scope pos) (z2n fr wi g tc te) := by
 intro pins s σ H Q I h
 rw [eval_ListComp]
 have hfree : ∀ y ∈ scope.names, y.2 = NameKind.free -> ∃ c, X.env.cells.lookup y.1 = some c := λ y hy hk => I.ok.has y.1 (S.out y hy hk)
 refine wpAny_comprehension_free (use := none) rfl hs (q2r hfree) S.kind (λ x hx hl => q0H S.snd (by rw [← hl]; exact hx)) (thn (hi pins s σ H _ I h) λ v s1 h1 => thn h1 λ itv s2 h2 => ?_)
 obtain ⟨it, fp, tn, J, H2, e, I2, T, st2, f2, w⟩ := h2
 subst e
 refine q6z (RR := λ acc C => compPost (model X.prog X.w) X.A X.xe none (EP X pins σ Q) acc C) S hc hg ht he I2 T st2 f2 w ?_
 intro D C H' s' m ys I' hD hnC hCn hCL hCs hCc hCp fin
 exact ⟨m, hnC, λ h' hs' => ⟨.ref D, _, I'.turned (it := C) (t' := s'.toks) (λ b o hb e => (hs'.2 b hb).trans e) hCn hCL (.inr hCs) hCc hCp, rfl, fin D hD⟩⟩
theorem q7b {X : Cx} {N' : List Str} {scope : Scope} {fr : List (Option Nat)} {iter elt tg : Expr} {ifs : List Expr} {pos spos py : Pos} {y : Str} {i : Nat} {wi : TI} {g : TG} {te : TE} {tc : TT} (S : CompScope X.N N' scope X.env.scope fr) (hc : X.calm = true) (hN : X.N.Nodup) (hiN : X.N[i]? = some y)
  (hy : X.env.scope.names.lookup y = some .local) (hi : PI X tg iter wi)
  (hg : ∀ C cells s₂ H₂ fp, PG (q0u X scope N' C cells s₂ H₂ fp) tg g) (ht : ∀ C cells s₂ H₂ fp, PTs (q0u X scope N' C cells s₂ H₂ fp) ifs tc) (he : ∀ C cells s₂ H₂ fp, PE (q0u X scope N' C cells s₂ H₂ fp) elt te)
  (hsw : swapsWith (.ListComp elt [⟨tg, iter, ifs, 0⟩] scope pos) (some (.Name y py)) spos.line X.env = pure true := by rfl)
  (hs : ∀ x, foldedSetIterable iter X.env x = pure x := by intro _; rfl) : PS X (.Assign [.Name y py] (.ListComp elt [⟨tg, iter, ifs, 0⟩] scope pos) spos) (tAsg (z2n fr wi g tc te) (q7y i)) := by
 intro pins s σ H Dn I h
 rw [exec_Assign_Name_used _ _ _ _ hsw]
 refine wpAny_bind (wpAny_standAt (wpAny_bind ?_))
 show wpAny _ _ (do let _ ← comprehension (.ListComp elt [⟨tg, iter, ifs, 0⟩] scope pos) scope X.env _ (newList []) false (eval iter X.env) (some (assign (.Name y py) X.env))) _ _ s
 have hfree : ∀ y ∈ scope.names, y.2 = NameKind.free -> ∃ c, X.env.cells.lookup y.1 = some c := λ y hy hk => I.ok.has y.1 (S.out y hy hk)
 refine wpAny_bind (wpAny_mono (wpAny_comprehension_free (use := some (assign (.Name y py) X.env)) (Q := λ _ s' => SP X pins Dn .next s') rfl hs (q2r hfree) S.kind (λ x hx hl => q0H S.snd (by rw [← hl]; exact hx))
  (thn (hi pins s σ H _ I h) λ v s1 h1 => thn h1 λ itv s2 h2 => ?_)) (λ _ s' hq => wpAny_pure (wpAny_pure hq)) λ _ _ e => e)
 obtain ⟨it, fp, tn, J, H2, e, I2, T, st2, f2, w⟩ := h2
 subst e
 refine q6z (RR := λ acc C => compPost (model X.prog X.w) X.A X.xe (some (assign (.Name y py) X.env)) (λ _ s' => SP X pins Dn .next s') acc C) S hc hg ht he I2 T st2 f2 w ?_
 intro D C H' s' m ys I' hD hnC hCn hCL hCs hCc hCp fin
 refine wpAny_assign_Name (q5j (v := .ref D) I' hN hiN (Or.inl hy) rfl (λ s'' I'' ⟨a, hsb, ha⟩ => ⟨m, hnC.sameBut hsb ?_, λ h' hs' => ⟨_, _, I''.turned (it := C) (t' := s''.toks) (λ b o hb e => (hs'.2 b hb).trans e) hCn hCL (.inr hCs) hCc hCp, fin D hD⟩⟩) (.inr hy))
 rcases ha with z | z
 ·rw [z]; exact hCL
 ·exact Ne.symm (hCc y a z)
end L2
end
section
namespace L2
open PySem PySem.Spec PyProof.Rows
theorem q1K.there {P : Program} {w : World} {H : Hp} {h : Heap} {a : Addr} {o : HO} (x : q1K P w H h a o) : ∃ ob, h.get? a = some ob := by
 cases o with
 | lst xs => obtain ⟨_, _, _, _, e⟩ := x; exact ⟨_, e⟩
 | tup xs => obtain ⟨_, _, _, ob, e, _⟩ := x; exact ⟨_, e⟩
 | dK kvs => obtain ⟨_, _, _, _, o, _, _, e, _⟩ := x; exact ⟨_, e⟩
 | dT kvs => obtain ⟨_, _, _, _, o, _, _, e, _⟩ := x; exact ⟨_, e⟩
 | set S n => obtain ⟨o, _, _, _, e, _⟩ := x; exact ⟨_, e⟩
 | ins C dx fs => obtain ⟨_, _, _, e, _⟩ := x; exact ⟨_, e⟩
 | own y => obtain ⟨_, e⟩ := x; exact ⟨_, e⟩
 | xd fs => obtain ⟨_, ⟨_, _, _, e, _⟩, _⟩ := x; exact ⟨_, e⟩
 | rng lo hi => obtain ⟨_, _, _, e⟩ := x; exact ⟨_, e⟩
 | frz ob u => obtain ⟨e, _⟩ := x; exact ⟨_, e⟩
 | tbl ps => exact ⟨_, (show h.get? a = some _ from x)⟩
 | met f y => exact ⟨_, (show h.get? a = some _ from x)⟩
 | ext φ => obtain ⟨_, ⟨_, e⟩, _⟩ := x; exact ⟨_, e⟩
structure Fly (P : Program) (w : World) (base : Heap) (l : List Env) (ea : Addr) (C : Value) (H : Hp) (B h : Heap) : Prop where
 fly : ∃ a0, Heap.FlyingW B l ea C a0 h
 bas : ∀ b o, base.get? b = some o -> B.get? b = some o
 hok : HOk P w H B
theorem Fly.stays {P : Program} {w : World} {base : Heap} {l : List Env} {ea : Addr} {C : Value} {H : Hp} {B h : Heap} (F : Fly P w base l ea C H B h) : ∀ b o, B.get? b = some o -> h.get? b = some o := by
 obtain ⟨a0, f⟩ := F.fly
 exact f.1
theorem Fly.newE {P : Program} {w : World} {base : Heap} {l : List Env} {ea : Addr} {C : Value} {H : Hp} {B h : Heap} (F : Fly P w base l ea C H B h) : B.get? ea = none := by
 obtain ⟨a0, f⟩ := F.fly
 exact f.2.1
theorem Fly.untr {P : Program} {w : World} {base : Heap} {l : List Env} {ea : Addr} {C : Value} {H : Hp} {B h : Heap} (F : Fly P w base l ea C H B h) : H ea = none := by
 cases q : H ea with
 | none => rfl
 | some o =>
  obtain ⟨ob, e⟩ := (F.hok ea o q).there
  rw [F.newE] at e; cases e
noncomputable def CXx (P : Program) (w : World) (base : Heap) : CXT := λ outer H s E e s' => ∃ (ea : Addr) (C : Value) (H' : Hp) (B : Heap), e = .ref ea /\ s'.os = s.os /\ AllBare s'.gens /\ Un (frs outer) [] H H' s.heap s'.heap /\
 Fly P w base outer ea C H' B s'.heap /\ (∀ b o, s.heap.get? b = some o -> b ∉ frs outer -> ∃ o', B.get? b = some o') /\ E C none H'
theorem Un.flown {fs ex : List Addr} {H H' : Hp} {h0 h1 h2 B : Heap} (u : Un fs ex H H' h0 h1) (cov : ∀ b o, h0.get? b = some o -> b ∉ fs -> b ∉ ex -> ∃ o', B.get? b = some o') (s1 : ∀ b o, B.get? b = some o -> h1.get? b = some o) (s2 : ∀ b o, B.get? b = some o -> h2.get? b = some o)
  (up : h1.UpToSlots h2) (fd : ∀ b ∈ fs, b ∉ ex /\ H b = none /\ ∀ o, h0.get? b = some o -> ∀ vs, o.data ≠ .fields vs) : Un fs ex H H' h0 h2 := by
 have keep : ∀ b o, h0.get? b = some o -> H b = none -> b ∉ fs -> b ∉ ex -> h2.get? b = some o := λ b o e n hb hx => by
  have e1 := u.keep b o e n hb hx
  obtain ⟨o', q⟩ := cov b o e hb hx
  have q1 := s1 b o' q
  rw [e1] at q1; cases q1
  exact s2 b o q
 have slot : ∀ b o, h0.get? b = some o -> H b = none -> b ∈ fs -> b ∉ ex -> ∃ sl, h2.get? b = some { o with slots := sl } := λ b o e n hb hx => by
  obtain ⟨sl, e1⟩ := u.slot b o e n hb hx
  obtain ⟨sl', e2⟩ := up b _ e1 ((fd b hb).2.2 o e)
  exact ⟨sl', e2⟩
 refine ⟨keep, slot, u.free, λ b o e hx => ?_, u.tups, u.frzs, u.tbls⟩
 by_cases hb : b ∈ fs
 ·obtain ⟨sl, q⟩ := slot b o e (fd b hb).2.1 hb hx
  exact ⟨_, q⟩
 ·obtain ⟨o', q⟩ := cov b o e hb hx
  exact ⟨o', s2 b o' q⟩
section
variable {X : Cx} {pins : List (Addr × Obj)} {σ : St} {H : Hp} {s : Shared}
theorem Inv.frameData (I : Inv X pins σ H s) : ∀ b ∈ X.fs, b ∉ X.ex /\ X.H₀ b = none /\ ∀ o, X.s₀.heap.get? b = some o -> ∀ vs, o.data ≠ .fields vs := λ b hb => by
 refine ⟨λ z => I.ok.exfs b z hb, I.ok.frf b hb, λ o e => ?_⟩
 obtain ⟨_, o', e', d⟩ := I.ok.funs.mem hb
 rw [e] at e'; cases e'
 exact d
theorem Inv.notStk (I : Inv X pins σ H s) {b : Addr} {o : Obj} (e : X.s₀.heap.get? b = some o) (hb : b ∉ X.fs) : b ∉ frs X.stack := λ z => by
 rcases List.mem_cons.mp (I.stkSub b z) with q | q
 ·exact absurd (Nat.lt_of_lt_of_le (Heap.lt_size e) I.ok.above) (by rw [q]; exact Nat.lt_irrefl _)
 ·exact hb q
theorem Inv.flown {h' : Heap} {t' : Nat} {l : List Env} {ea : Addr} {C : Value} {B : Heap} (I : Inv X pins σ H s) (F : Fly X.prog X.w X.base l ea C H B s.heap) (cov : ∀ b o, X.s₀.heap.get? b = some o -> b ∉ frs X.stack -> b ∉ X.ex -> ∃ o', B.get? b = some o')
  (pc : ∀ p ∈ X.pn ++ pins, ∃ o', B.get? p.1 = some o') (st : ∀ b o, B.get? b = some o -> h'.get? b = some o) (up : s.heap.UpToSlots h') : Inv X pins σ H { s with heap := h', toks := t' } := by
 have cellK : ∀ c v, s.heap.IsCell c v -> h'.IsCell c v := λ c v ⟨o, ho, hd⟩ => by
  obtain ⟨sl, q⟩ := up c o ho (λ vs z => by rw [hd] at z; cases z)
  exact ⟨_, q, hd⟩
 refine ⟨I.ok, I.os, I.bare, I.base.flown (λ b o e hb hx => cov b o e (I.notStk e hb) hx) F.stays st up I.frameData, ?_, λ x c e => ?_, I.free, I.freeC, λ p hp => ?_, F.hok.kept st, I.len⟩
 ·obtain ⟨m, hn, hl⟩ := I.loc
  refine ⟨m, up.ns hn, λ i x v e1 e2 e3 => ?_⟩
  obtain ⟨u, r, l⟩ := hl i x v e1 e2 e3
  refine ⟨u, r, ?_⟩
  rcases l with l | ⟨k, c, e, z⟩
  ·exact .inl l
  ·exact .inr ⟨k, c, e, cellK c _ z⟩
 ·obtain ⟨v, z⟩ := I.cell x c e
  exact ⟨v, cellK c v z⟩
 ·obtain ⟨e, n, ne, nf, d⟩ := I.pin p hp
  obtain ⟨o', q⟩ := pc p hp
  have q1 := F.stays _ _ q
  rw [e] at q1; cases q1
  exact ⟨st _ _ q, n, ne, nf, d⟩
end
section
variable {P : Program} {w : World} {K : PySem.W.Frag} {mg : Str -> Option Value} {base : Heap} {N : List Str} {qual : Str} {scope : Scope} {f : Addr} {cd : Value} {A : Around} {outer : List Env} {s : Shared} {H : Hp} {E : XK}
noncomputable abbrev cxD (P : Program) (w : World) (K : PySem.W.Frag) (mg : Str -> Option Value) (base : Heap) (N : List Str) (qual : Str) (scope : Scope) (f : Addr) (cd : Value) (A : Around) (outer : List Env) (s : Shared) (H : Hp) (E : XK) : Cx :=
 cxOf (CXx P w base) P w K mg base N qual scope f cd A outer s H E
theorem q5W {pins : List (Addr × Obj)} {σ : St} {H1 : Hp} {s1 : Shared} {h' : Heap} {ea : Addr} {C : Value} {vs : List Value} (I : Inv (cxD P w K mg base N qual scope f cd A outer s H E) pins σ H1 s1) (hx : Heap.MadeExcOf s1.heap h' ea C vs) (hE : E C none H1) :
  (cxD P w K mg base N qual scope f cd A outer s H E).xe (.ref ea) { s1 with heap := h' } := by
 have hstk := I.stack
 have hin : ∀ env ∈ (cxD P w K mg base N qual scope f cd A outer s H E).stack, ∀ a, env.frame = some a -> a ∈ frs (cxD P w K mg base N qual scope f cd A outer s H E).stack := λ env he b hb => List.mem_filterMap.mpr ⟨env, he, hb⟩
 have hB1 : ∀ b o, (PySem.W.hideAll s1.heap (frs (cxD P w K mg base N qual scope f cd A outer s H E).stack)).get? b = some o -> s1.heap.get? b = some o := λ b o q => PySem.W.of_hideAll _ q
 have hHid : ∀ b u, H1 b ≠ none -> s1.heap.get? b = some u -> (PySem.W.hideAll s1.heap (frs (cxD P w K mg base N qual scope f cd A outer s H E).stack)).get? b = some u := λ b u hb q => PySem.W.hideAll_get _ q λ z => hb (I.stkFree b z)
 refine wpAny_leaves_madeW (base := PySem.W.hideAll s1.heap (frs (cxD P w K mg base N qual scope f cd A outer s H E).stack)) (h := s1.heap) I.ok.frames rfl hB1 (PySem.W.funFrames_hide hstk hin) hx λ h2 t fl tup nt up => ?_
 have hcov : ∀ b o, s.heap.get? b = some o -> b ∉ frs outer -> ∃ o', (PySem.W.hideAll s1.heap (frs (cxD P w K mg base N qual scope f cd A outer s H E).stack)).get? b = some o' := λ b o e hb => by
  obtain ⟨o1, e1⟩ := I.base.there b o e (by intro z; exact nomatch z)
  exact ⟨o1, PySem.W.hideAll_get _ e1 (I.notStk e hb)⟩
 refine ⟨ea, C, H1, _, rfl, I.os, I.bare, I.base.flown (λ b o e hb _ => hcov b o e hb) hB1 fl.1 ((Heap.UpToSlots.of_keeps hx.keeps).trans up) I.frameData, ⟨⟨_, fl⟩, λ b o e => ?_, λ a o q => ?_⟩, hcov, hE⟩
 ·refine PySem.W.hideAll_get _ (I.bk b o e) λ z => ?_
  have q : base.get? b = none := (hstk.mem z).1
  rw [q] at e; cases e
 ·refine (I.hok a o q).stay (λ b u hc e => hHid b u ?_ e) (λ _ z => z) λ _ _ z => z
  rcases hc with z | z
  ·subst z; rw [q]; intro z; cases z
  ·rw [z]; intro z; cases z
theorem q9Z {pins : List (Addr × Obj)} {σ : St} {H1 : Hp} {s1 : Shared} {ea : Addr} {C : Value} {B : Heap} (I : Inv (cxD P w K mg base N qual scope f cd A outer s H E) pins σ H1 s1) (F : Fly P w base (cxD P w K mg base N qual scope f cd A outer s H E).stack ea C H1 B s1.heap)
  (cov : ∀ b o, s.heap.get? b = some o -> b ∉ frs (cxD P w K mg base N qual scope f cd A outer s H E).stack -> ∃ o', B.get? b = some o') (hE : E C none H1) : (cxD P w K mg base N qual scope f cd A outer s H E).xe (.ref ea) s1 := by
 obtain ⟨a0, fl⟩ := F.fly
 refine wpAny_leaves_onW I.ok.frames rfl fl λ h2 fl2 up => ?_
 have hcov : ∀ b o, s.heap.get? b = some o -> b ∉ frs outer -> ∃ o', B.get? b = some o' := λ b o e hb => cov b o e (I.notStk e hb)
 exact ⟨ea, C, H1, B, rfl, I.os, I.bare, I.base.flown (λ b o e hb _ => hcov b o e hb) F.stays fl2.1 up I.frameData, ⟨⟨_, fl2⟩, F.bas, F.hok⟩, hcov, hE⟩
theorem q7f : q8s (CXx P w base) (cxD P w K mg base N qual scope f cd A outer s H E) E := by
 intro pins σ H0 s0 e s' I hcx
 obtain ⟨ea, C, H', B, rfl, os, bare, un, F, cov, hE⟩ := hcx
 have I' : Inv (cxD P w K mg base N qual scope f cd A outer s H E) pins σ H' s' := I.call' os un (F.hok.kept F.stays) bare λ b hb => nomatch hb
 refine q9Z I' F (λ b o e hb => ?_) hE
 obtain ⟨o1, e1⟩ := I.base.there b o e (by intro z; exact nomatch z)
 exact cov b o1 e1 hb
end
noncomputable def excO (ea : Addr) (C : Value) : HO := .ext λ h => ∃ oe vs, h.get? ea = some oe /\ oe.cls = C /\ oe.data = .fields vs
theorem z1i {P : Program} {w : World} {H : Hp} {h : Heap} {ea : Addr} {C : Value} (x : ∃ oe vs, h.get? ea = some oe /\ oe.cls = C /\ oe.data = .fields vs) : q1K P w H h ea (excO ea C) := by
 refine ⟨x, ?_, λ h1 h2 p k => ?_⟩
 ·obtain ⟨oe, _, e, _⟩ := x; exact ⟨oe, e⟩
 ·obtain ⟨oe, vs, e, c, d⟩ := p
  exact ⟨oe, vs, k oe e, c, d⟩
noncomputable def XP (X : Cx) (pins : List (Addr × Obj)) (E : St -> Value -> Hp -> Prop) (e : Value) (s' : Shared) : Prop := ∃ (ea : Addr) (C : Value) (σ' : St) (H' : Hp) (B : Heap), e = .ref ea /\ Inv X pins σ' H' s' /\ Fly X.prog X.w X.base X.stack ea C H' B s'.heap /\
 (∀ b o, X.s₀.heap.get? b = some o -> b ∉ frs X.stack -> b ∉ X.ex -> ∃ o', B.get? b = some o') /\ (∀ p ∈ X.pn ++ pins, ∃ o', B.get? p.1 = some o') /\ E σ' C H'
noncomputable abbrev Cx.tryIn (X : Cx) (pins : List (Addr × Obj)) (E : St -> Value -> Hp -> Prop) : Cx := { X with pn := X.pn ++ pins, xe := XP X pins E }
noncomputable abbrev Cx.inExc (X : Cx) (ea : Addr) : Cx := { X with A := X.A.mark (some (.ref ea)), calm := false, xe := λ _ _ => False }
section
variable {X : Cx} {pins pins' : List (Addr × Obj)} {σ : St} {H : Hp} {s : Shared} {E : St -> Value -> Hp -> Prop} {ea : Addr}
theorem Cx.Ok.tryIn (k : X.Ok) : (X.tryIn pins E).Ok := ⟨k.mod, k.kind, k.glob, k.blt, k.above, k.inj, k.has, k.cab, k.hd, k.frames, k.stk, k.exf, k.bs, k.bsz, k.noex, k.exfs, k.funs, k.frf⟩
theorem Cx.Ok.untry (k : (X.tryIn pins E).Ok) : X.Ok := ⟨k.mod, k.kind, k.glob, k.blt, k.above, k.inj, k.has, k.cab, k.hd, k.frames, k.stk, k.exf, k.bs, k.bsz, k.noex, k.exfs, k.funs, k.frf⟩
theorem Cx.Ok.inExc (k : X.Ok) : (X.inExc ea).Ok := ⟨k.mod, k.kind, k.glob, k.blt, k.above, k.inj, k.has, k.cab, (λ z => (nomatch z)), k.frames, k.stk, k.exf, k.bs, k.bsz, k.noex, k.exfs, k.funs, k.frf⟩
theorem Inv.tryIn (I : Inv X (pins ++ pins') σ H s) : Inv (X.tryIn pins E) pins' σ H s :=
 ⟨I.ok.tryIn, I.os, I.bare, I.base, I.loc, I.cell, I.free, I.freeC, λ p hp => I.pin p (by have hp : p ∈ (X.pn ++ pins) ++ pins' := hp; rw [List.append_assoc] at hp; exact hp), I.hok, I.len⟩
theorem Inv.untry (I : Inv (X.tryIn pins E) pins' σ H s) : Inv X (pins ++ pins') σ H s :=
 ⟨I.ok.untry, I.os, I.bare, I.base, I.loc, I.cell, I.free, I.freeC, λ p hp => I.pin p (by show p ∈ (X.pn ++ pins) ++ pins'; rw [List.append_assoc]; exact hp), I.hok, I.len⟩
theorem Inv.inExc (I : Inv X pins σ H s) : Inv (X.inExc ea) pins σ H s := ⟨I.ok.inExc, I.os, I.bare, I.base, I.loc, I.cell, I.free, I.freeC, I.pin, I.hok, I.len⟩
theorem Inv.unExc (I : Inv (X.inExc ea) pins σ H s) (k : X.Ok) : Inv X pins σ H s := ⟨k, I.os, I.bare, I.base, I.loc, I.cell, I.free, I.freeC, I.pin, I.hok, I.len⟩
theorem Inv.track {a : Addr} {o : HO} (I : Inv X pins σ H s) (hn : H a = none) (h0 : X.s₀.heap.get? a = none) (hL : a ≠ X.env.locals) (hc : ∀ x c, X.env.cells.lookup x = some c -> c ≠ a) (hp : ∀ p ∈ X.pn ++ pins, p.1 ≠ a) (new : q1K X.prog X.w (upd H a o) s.heap a o) :
  Inv X pins σ (upd H a o) s :=
 ⟨I.ok, I.os, I.bare, I.base.track hn h0, I.loc, I.cell, by rw [q0w (Ne.symm hL)]; exact I.free, λ x c e => by rw [q0w (hc x c e)]; exact I.freeC x c e, λ p hq => by
  obtain ⟨e, n, ne, nf, d⟩ := I.pin p hq
  exact ⟨e, by rw [q0w (hp p hq)]; exact n, ne, nf, d⟩, I.hok.track hn new, I.len⟩
theorem q2Z {M : Model} {A : Around} {EE : Value -> Shared -> Prop} {i : Nat} {x : Str} {pos : Pos} {Q : Unit -> Shared -> Prop} (I : Inv X pins σ H s) (hN : X.N.Nodup) (hi : X.N[i]? = some x) (hx : X.env.scope.names.lookup x = some .local)
  (h : ∀ s', Inv X pins (σ.set i none) H s' -> Q () s') : wpAny M A (do bindName X.env x .none; unbindBehindTheSuite X.env x pos) Q EE s := by
 obtain ⟨m, hn, hl⟩ := id I.loc
 have hcls : (X.env.scope.kind == .class || (X.env.scope.kind == .module && X.env.locals != X.env.globals)) = false := by rw [I.ok.kind]; rfl
 have hiσ : i < σ.length := by rw [I.len]; exact (List.getElem?_eq_some_iff.mp hi).1
 have cne := I.cne
 have tracked : ∀ {h' : Heap}, Heap.SameBut X.env.locals s.heap h' -> HOk X.prog X.w H h' := λ {h'} hs b ob e => by
  refine (I.hok b ob e).stay (λ c w' hc q => (hs.2 c ?_).trans q) (λ _ q => q) λ _ _ q => q
  rintro rfl
  rcases hc with rfl | hc
  ·rw [I.free] at e; cases e
  ·rw [I.free] at hc; cases hc
 refine wpAny_nameGoes_keeps hx hn hcls λ h' v hn' hs => ?_
 refine h _ ⟨I.ok, I.os, I.bare, ⟨λ b o e n hb hx => ?_, λ b o e n hb hx => ?_, I.base.free, λ b o e hx => ?_, I.base.tups, I.base.frzs, I.base.tbls⟩, ⟨_, hn', λ j y v' e1 e2 e3 => ?_⟩, λ y c e => ?_, I.free, I.freeC, λ p hp => ?_, tracked hs, by simpa using I.len⟩
 ·exact (hs.2 b (Nat.ne_of_lt (Nat.lt_of_lt_of_le (Heap.lt_size e) I.ok.above))).trans (I.base.keep b o e n hb hx)
 ·obtain ⟨sl, e1⟩ := I.base.slot b o e n hb hx
  exact ⟨sl, (hs.2 b (Nat.ne_of_lt (Nat.lt_of_lt_of_le (Heap.lt_size e) I.ok.above))).trans e1⟩
 ·obtain ⟨o', e1⟩ := I.base.there b o e hx
  exact ⟨o', (hs.2 b (Nat.ne_of_lt (Nat.lt_of_lt_of_le (Heap.lt_size e) I.ok.above))).trans e1⟩
 ·by_cases hj : j = i
  ·subst hj
   rw [List.getElem?_set_self hiσ] at e2
   cases e2
  ·rw [List.getElem?_set_ne (Ne.symm hj)] at e2
   obtain ⟨u', r', q⟩ := hl j y v' e1 e2 e3
   refine ⟨u', r', ?_⟩
   rcases q with ⟨k, e⟩ | ⟨k, c, e, z⟩
   ·refine .inl ⟨k, ?_⟩
    have : y ≠ x := λ e => hj (q3x hN e1 (e ▸ hi))
    simp [this, e]
   ·exact .inr ⟨k, c, e, z.sameBut hs (cne y c e)⟩
 ·obtain ⟨w', z⟩ := I.cell y c e
  exact ⟨w', z.sameBut hs (cne y c e)⟩
 ·obtain ⟨e, n, ne, nf, d⟩ := I.pin p hp
  exact ⟨(hs.2 p.1 ne).trans e, n, ne, nf, d⟩
end
noncomputable def q3i (CX : CXT) (X : Cx) (E : St -> XK) : Prop := ∀ (pins : List (Addr × Obj)) (σ : St) (H : Hp) (s : Shared) (e : Value) (s' : Shared), Inv X pins σ H s -> CX X.stack H s (E σ) e s' -> X.xe e s'
theorem q8s.s {CX : CXT} {X : Cx} {E : XK} (h : q8s CX X E) : q3i CX X λ _ => E := λ pins σ H s e s' I q => h pins σ H s e s' I q
theorem q7m {X : Cx} {pins : List (Addr × Obj)} {E : St -> Value -> Hp -> Prop} : q3i (CXx X.prog X.w X.base) (X.tryIn pins E) (λ σ C _ H => E σ C H) := by
 intro pins' σ H0 s0 e s' I hcx
 obtain ⟨ea, C, H', B, rfl, os, bare, un, F, cov, hE⟩ := hcx
 have I' : Inv (X.tryIn pins E) pins' σ H' s' := I.call' os un (F.hok.kept F.stays) bare λ b hb => nomatch hb
 have J := I'.untry
 refine ⟨ea, C, σ, H', B, rfl, J.pins_of λ p hp => J.pin p (List.mem_append_right _ (List.mem_append_left _ hp)), F, λ b o e hb hx => ?_, λ p hp => ?_, hE⟩
 ·obtain ⟨o1, e1⟩ := I.base.there b o e hx
  exact cov b o1 e1 hb
 ·obtain ⟨e, n, ne, nf, d⟩ := I.pin p (List.mem_append_left _ hp)
  exact cov p.1 p.2 e λ z => (List.mem_cons.mp (I.stkSub _ z)).elim ne nf
section
variable {X : Cx} {CX : CXT} {k : Nat} {f C : Addr} {fd : FuncData} {ps : List Str} {sp : Sp} {dvs : List V} {ds : List Value} {E : St -> XK} {x m : Str} {p pos apos : Pos} {e o : Expr} {es : List Expr} {ta : TE} {t : TA}
theorem z1w {pins : List (Addr × Obj)} {σ : St} {H : Hp} {s : Shared} {Q : VK} {us : List Value} {vs : List V} (F : FnOk X.prog X.w X.K X.mg X.base CX k f fd ps sp) (hr : Room k X.A) (hb : q4a X.K fd ps ds) (hd : Vals dvs ds) (hx : q3i CX X E)
  (I : Inv X pins σ H s) (r : Vals vs us) (h : sp (vs ++ dvs) H Q (E σ)) : wpAny (model X.prog X.w) X.A (call (.ref f) us) (EP X pins σ Q) X.xe s := by
 have r2 : Vals (vs ++ dvs) (us ++ ds) := r.append hd
 have hl : (us ++ ds).length = ps.length := by rw [← r2.length]; exact F.len _ _ _ _ h
 refine wpAny_call (codeAny_mono (F.run X.A X.stack s H ⟨us, []⟩ (us ++ ds) (vs ++ dvs) Q (E σ) hr I.env0 (hb s us I.kIn hl) r2 h) λ r s' hq => ?_)
 cases r with
 | error e => exact hx pins σ H s e s' I hq
 | ok fl =>
  cases fl with
  | ret u => exact I.after hq
  | next => exact False.elim hq
  | brk => exact False.elim hq
  | cont => exact False.elim hq
noncomputable def z4n (sp : Sp) (dvs : List V) (E : St -> XK) (t : TA) : TE := λ σ H Q => t σ H λ vs H1 => sp (vs ++ dvs) H1 Q (E σ)
theorem q9X (F : FnOk X.prog X.w X.K X.mg X.base CX k f fd ps sp) (hr : Room k X.A) (hg : Gl X x) (hm : X.mg x = some (.ref f)) (hk : PySem.W.keepIn X.K (.ref f) = true) (hb : q4a X.K fd ps ds) (hd : Vals dvs ds) (hx : q3i CX X E)
  (ha : PA X (e :: es) t) (hdb : (x == ("__debug__" : Str)) = false := by decide) (he : starEach (e :: es) X.env = (false, eval e X.env) :: starEach es X.env := by rfl) (hpl : (backTo pos (starEach es X.env)).any (·.1) = false := by rfl) :
  PE X (.Call (.Name x p) (e :: es) [] pos) (z4n sp dvs E t) := by
 intro pins s σ H Q I h
 refine wpAny_Call_Name_kw (q4Y I hg hm ?_ hdb)
 refine PySem.W.callWith_K (h₀ := X.base) I.ok.mod.kin hk (thn (ha pos pins s σ H _ I h) λ us s1 ⟨vs, H1, I1, r, q⟩ => ⟨I1.kIn, ?_⟩) he hpl
 exact z1w F hr hb hd hx I1 r q
end
noncomputable def tTry (K : PySem.W.Frag) (cv : Value) (i : Nat) (tb : (St -> Value -> Hp -> Prop) -> TS) (ts : TS) : TS := λ D σ H =>
 tb (λ σ' C H' => PySem.W.exmOne K C cv = some true /\ ∀ ea, H' ea = none -> ts { nx := λ σ2 H2 => D.nx (σ2.set i none) H2, rt := D.rt, bk := λ σ2 H2 => D.bk (σ2.set i none) H2, ct := λ σ2 H2 => D.ct (σ2.set i none) H2 } (σ'.set i (some (.ref ea))) (upd H' ea (excO ea C))) D σ H
theorem z2S {X : Cx} {body suite : List Stmt} {b₀ : Stmt} {c n : Str} {np hpos pos : Pos} {i : Nat} {tb : (St -> Value -> Hp -> Prop) -> TS} {ts : TS} {cv : Value} (hst : X.stack = X.env :: X.outer) (hfr : X.env.frame = some X.env.locals) (hex : X.ex = []) (hgl : Gl X c) (hm : X.mg c = some cv)
  (hN : X.N.Nodup) (hi : X.N[i]? = some n) (hl : X.env.scope.names.lookup n = some .local) (hb : ∀ pins E, PSs (X.tryIn pins E) body (tb E)) (hs : ∀ ea, PSs (X.inExc ea) (b₀ :: suite) ts) (hd : (c == ("__debug__" : Str)) = false := by decide) :
  PS X (.Try body [.ExceptHandler (some (.Name c np)) (some n) (b₀ :: suite) hpos] [] [] pos) (tTry X.K cv i tb ts) := by
 intro pins s σ H D I h
 refine wpAny_Try_except ?_
 have un : ∀ {σ1 : St} {H1 : Hp} {s1 : Shared} {E : St -> Value -> Hp -> Prop}, Inv (X.tryIn pins E) [] σ1 H1 s1 -> Inv X pins σ1 H1 s1 := λ {σ1 H1 s1 E} J => by
  have q := J.untry
  rw [List.append_nil] at q
  exact q
 refine wpAny_mono (hb pins _ [] s σ H D (Inv.tryIn (pins' := []) (by rw [List.append_nil]; exact I)) h) (λ f s1 q => ?_) (λ e s1 q => ?_)
 ·cases f with
  | next => obtain ⟨σ1, H1, I1, q1⟩ := q; exact wpAny_execs_nil ⟨σ1, H1, un I1, q1⟩
  | brk => obtain ⟨σ1, H1, I1, q1⟩ := q; exact ⟨σ1, H1, un I1, q1⟩
  | cont => obtain ⟨σ1, H1, I1, q1⟩ := q; exact ⟨σ1, H1, un I1, q1⟩
  | ret u => obtain ⟨v, σ1, H1, I1, r1, q1⟩ := q; exact ⟨v, σ1, H1, un I1, r1, q1⟩
 ·obtain ⟨ea, C, σ1, H1, B, rfl, I1, F, cov, pc, hE, hsuite⟩ := q
  obtain ⟨a0, fl⟩ := F.fly
  have fl' : Heap.FlyingW B (X.env :: X.outer) ea C a0 s1.heap := by rw [← hst]; exact fl
  refine wpAny_looks_onW (by rw [← hst]; exact I1.ok.frames) hfr fl' λ h4 held up4 => ?_
  refine wpAny_landsW held λ h5 fl5 up5 => ?_
  have up := up4.trans up5
  have I5 : Inv X pins σ1 H1 { s1 with heap := h5 } := I1.flown (t' := s1.toks) F cov pc fl5.1 up
  have J5 : Inv (X.inExc ea) pins σ1 H1 { s1 with heap := h5 } := I5.inExc
  obtain ⟨oe, ws, hoe, hoec, hoed, hoe0⟩ := fl5.first
  refine wpAny_handleBy_cons (codeAny_handlers_test ?_) (by intro q; cases q)
  refine q4Y J5 hgl hm ?_ hd
  have LT : PySem.W.Looks (model X.prog X.w) h5 (typeOf (.ref ea)) C := hoec ▸ (PySem.W.Looks.ld hoe).andThen .now
  refine (PySem.W.exm_one (M := model X.prog X.w) (K := X.K) (h := h5) J5.kIn LT hE).here ?_
  show codeAny _ _ (.handlers (.ref ea) [.ExceptHandler none (some n) (b₀ :: suite) hpos] X.env) _ _
  refine codeAny_handlers_suite_as ?_
  refine lands_againW fl5 λ h6 fl6 up6 => ?_
  have I6 : Inv X pins σ1 H1 { s1 with heap := h6 } := I1.flown (t' := s1.toks) F cov pc fl6.1 (up.trans up6)
  obtain ⟨oe6, ws6, hoe6, hoec6, hoed6, _⟩ := fl6.first
  have hn : H1 ea = none := F.untr
  have h0 : X.s₀.heap.get? ea = none := by
   cases q : X.s₀.heap.get? ea with
   | none => rfl
   | some o =>
    exfalso
    by_cases hf : ea ∈ frs X.stack
    ·obtain ⟨_, o', e', d⟩ := I6.stack.mem hf
     have e'' : h6.get? ea = some o' := e'
     rw [hoe6] at e''; cases e''
     exact d _ hoed6
    ·obtain ⟨o', z⟩ := cov ea o q hf (by rw [hex]; intro z; exact nomatch z)
     rw [F.newE] at z; cases z
  have hL : ea ≠ X.env.locals := λ z => by
   obtain ⟨m, ⟨o, es, ep, ho, hdd, _⟩, _⟩ := I6.loc
   have ho' : h6.get? ea = some o := by rw [z]; exact ho
   rw [hoe6] at ho'; cases ho'
   rw [hoed6] at hdd; cases hdd
  have hc : ∀ x c, X.env.cells.lookup x = some c -> c ≠ ea := λ x c e z => by
   obtain ⟨v, o, ho, hdd⟩ := I6.cell x c e
   have ho' : h6.get? ea = some o := by rw [← z]; exact ho
   rw [hoe6] at ho'; cases ho'
   rw [hoed6] at hdd; cases hdd
  have hp : ∀ p ∈ X.pn ++ pins, p.1 ≠ ea := λ p hp z => by
   obtain ⟨o', q⟩ := pc p hp
   rw [z, F.newE] at q; cases q
  have J6 : Inv (X.inExc ea) pins σ1 (upd H1 ea (excO ea C)) { s1 with heap := h6 } := (I6.track hn h0 hL hc hp (z1i ⟨oe6, ws6, hoe6, hoec6, hoed6⟩)).inExc
  refine q2Y (X := X.inExc ea) (i := i) (v := .ref ea) J6 hN hi (Or.inl hl) rfl (λ s7 I7 => ?_) (.inr hl)
  refine wpAny_mono (hs ea pins s7 _ _ _ I7 (hsuite ea hn)) (λ f s8 q => ?_) λ _ _ z => z.elim
  cases f with
  | next => obtain ⟨σ8, H8, I8, q8⟩ := q; exact q2Z (I8.unExc I.ok) hN hi hl λ s9 I9 => ⟨_, H8, I9, q8⟩
  | brk => obtain ⟨σ8, H8, I8, q8⟩ := q; exact q2Z (I8.unExc I.ok) hN hi hl λ s9 I9 => ⟨_, H8, I9, q8⟩
  | cont => obtain ⟨σ8, H8, I8, q8⟩ := q; exact q2Z (I8.unExc I.ok) hN hi hl λ s9 I9 => ⟨_, H8, I9, q8⟩
  | ret u => obtain ⟨v, σ8, H8, I8, r8, q8⟩ := q; exact q2Z (I8.unExc I.ok) hN hi hl λ s9 I9 => ⟨v, _, H8, I9, r8, q8⟩
theorem z0l {K : PySem.W.Frag} {h₀ : Heap} {mg : Str -> Option Value} {x : Str} {C : Addr} {bmB : List Value} {newId : String} (X : K.In h₀) (hm : mg x = some (.ref C)) (q : PySem.W.excIn K C bmB newId = true) : OwnCls x C bmB newId mg h₀ := by
 refine ⟨hm, ?_⟩
 unfold PySem.W.excIn at q
 split at q
 ·rename_i dd cd sl ho
  split at q
  ·rename_i C' bm k0 k1 k2 k3 n k5 hm hs
   simp only [Bool.and_eq_true, beq_iff_eq, Bool.not_eq_true'] at q
   obtain ⟨⟨⟨⟨⟨rfl, rfl⟩, hdel⟩, ht⟩, hok⟩, hni⟩ := q
   obtain ⟨nm, bs, mro, ns, qn, hd, sn, sub, ab, col, del⟩ := cd
   dsimp only at hm hdel hok hni
   subst hm hdel
   have hsl : sl = #[k0, k1, k2, k3, some (.builtin n), k5] := by
    obtain ⟨l⟩ := sl
    simp only at hs
    rw [hs]
   subst hsl
   exact ⟨bm, ns, nm, qn, bs, hd, sn, sub, ab, col, dd, k0, k1, k2, k3, k5, _, X _ _ ho, .of_isNs (PySem.W.isNs_of_in X hok), PySem.W.nsMap_none_of_in X hok hni, PySem.W.tail_of_in X ht⟩
  ·cases q
 ·cases q
noncomputable def q3w (X : Cx) (E : St -> XK) : Prop := ∀ (pins : List (Addr × Obj)) (σ : St) (H : Hp) (s : Shared) (h' : Heap) (ea : Addr) (C : Value) (vs : List Value), Inv X pins σ H s -> Heap.MadeExcOf s.heap h' ea C vs -> E σ C none H -> X.xe (.ref ea) { s with heap := h' }
theorem q7p {P : Program} {w : World} {K : PySem.W.Frag} {mg : Str -> Option Value} {base : Heap} {N : List Str} {qual : Str} {scope : Scope} {f : Addr} {cd : Value} {A : Around} {outer : List Env} {s : Shared} {H : Hp} {E : XK} :
  q3w (cxD P w K mg base N qual scope f cd A outer s H E) λ _ => E := λ pins σ H1 s1 h' ea C vs I hx hE => q5W I hx hE
noncomputable def z2Q (C : Addr) (E : St -> XK) (t : TA) : TS := λ _ σ H => t σ H λ vs H1 => vs.length <= sizeLine /\ E σ (.ref C) none H1
theorem z0s {X : Cx} {x : Str} {C : Addr} {bmB : List Value} {B newId initId : String} {np cpos pos : Pos} {e₀ : Expr} {rest : List Expr} {t : TA} {E : St -> XK} (FB : ExcBaseFacts B newId initId bmB) (hc : X.calm = true) (hg : Gl X x) (hm : X.mg x = some (.ref C)) (hx : PySem.W.excIn X.K C bmB newId = true)
  (hR : q3w X E) (ha : PA X (e₀ :: rest) t) (hd : (x == ("__debug__" : Str)) = false := by decide) (he : starEach (e₀ :: rest) X.env = (false, eval e₀ X.env) :: starEach rest X.env := by rfl) (hpl : (backTo cpos (starEach rest X.env)).any (·.1) = false := by rfl) :
  PS X (.Raise (some (.Call (.Name x np) (e₀ :: rest) [] cpos)) none pos) (z2Q C E t) := by
 intro pins s σ H D I h
 obtain ⟨tl, N, nm, q, bs, hdct, sn, sub, ab, col, dd, k0, k1, k2, k3, k5, mN, hC, hN, hni, T⟩ := (z0l I.mod.kin hm hx).obj
 refine wpAny_Raise_call_subT (C := C) (nm := nm) (q := q) (N := N) (bs := bs) (bm := tl) (hdct := hdct) (sn := sn) (sub := sub) (ab := ab) (col := col) (dd := dd) (k0 := k0) (k1 := k1) (k2 := k2) (k3 := k3) (k5 := k5)
  FB (mN := mN) (T.hasType FB.hasBase) (I.ok.hd hc) (by rw [he]; show (false || (backTo cpos (starEach rest X.env)).any (·.1)) = false; rw [hpl]; rfl) hni (q4Y I hg hm ⟨rfl, ?_⟩ hd)
 have hq := ha cpos pins s σ H _ I h
 rw [he] at hq ⊢
 exact Calls.evalArgs_plain (thn hq λ vs s₂ ⟨xs, H2, I2, r2, hl, hE⟩ => ⟨rfl, by show vs.length <= sizeLine; rw [← r2.length]; exact hl, I2.bk _ _ hC, hN.keeps I2.bk, T.keeps I2.bk, λ h' e hm' => hR pins σ H2 s₂ h' e _ _ I2 hm' hE⟩)
end L2
end
section
namespace L2
open PySem PySem.W PySem.Spec PySem.Calls PyProof.Rows PySem.Builtin PySem.Builtin.ObjectAttr PySem.Builtin.Getset_descriptor
noncomputable def q5G (x D : Addr) (h : Heap) : Prop := ∃ o, h.get? x = some o /\ o.cls = .ref D
section
variable {prog : Program} {w : World} {K : Frag} {x D : Addr} {M : Model} {h : Heap}
theorem q5G.ty (p : q5G x D h) : Looks M h (typeOf (.ref x)) (.ref D) := by
 obtain ⟨o, e, c⟩ := p
 exact c ▸ (Looks.ld e).andThen .now
theorem q9q {a g : Value} {n : Str} (X : K.In h) (h1 : findIn K (.ref D) n = some (some a)) (h2 : specialIn K a "__get__" = some (some g)) (h3 : takesIn K a = some true) : Looks M h (find (.ref x) (.ref D) n) (.bind g a) := by
 have T : Looks M h (dataDescriptor? (some a) (some g)) (some (g, a)) := (looks_takesIn X h3).andThen .now
 exact (looks_findIn X h1).andThen ((show Looks M h (getOf (some a)) (some g) from looks_specialIn X h2).andThen (T.andThen (Looks.tag .now)))
structure ClsK (K : Frag) (D : Addr) : Prop where
 ga : findIn K (.ref D) "__getattribute__" = some (some (.builtin "BaseException.__getattribute__"))
 gt : findIn K (.ref D) "__getattr__" = some none
 mb : mroIn K D (.type "BaseException") = some true
 hd : hasDictIn K D = true
 fc : findIn K (.ref D) "__class__" = some (some (.builtin "object.__class__"))
 sg : specialIn K (.builtin "object.__class__") "__get__" = some (some (.builtin "getset_descriptor.__get__"))
 tk : takesIn K (.builtin "object.__class__") = some true
 mo : mroIn K D (.type "object") = some true
variable {A : Around} {E : Value -> Shared -> Prop} {s : Shared}
theorem z1u {tp : Value} {R : Result -> Shared -> Prop} (X : K.In s.heap) (p : q5G x D s.heap) (hm : mroIn K D (.type "object") = some true) (q : R (.ok (.ret (.ref D))) s) :
  codeAny (model prog w) A (.call (.builtin "getset_descriptor.__get__") ⟨[.builtin "object.__class__", .ref x, tp], []⟩) R s := by
 obtain ⟨h0, g0, d0, t0, o0⟩ := s
 have T0 := p.ty (M := model prog w)
 have T1 := looks_mroIn (M := model prog w) X hm
 refine codeAny_call_builtin KF.slot_gs.plain KF.entry_gs (KF.slot_gs.check _ _ _ _ _ _ _ _ KF.type_class (KF.args_gs _ _ _) ?_)
 unfold Builtin.«getset_descriptor.__get__»
 unfold descrGet
 rw [dga_obj]
 refine wpAny_bind (wpAny_pure ?_)
 unfold descrGetter
 unfold descrCheckInstance
 unfold descrNameAndClass
 unfold isInstance
 simp only [KF.owner_class]
 repeat lk
 refine ⟨Code.quiet_builtin _ (by decide +kernel), codeAny_builtin KF.entry_class ?_⟩
 unfold Builtin.«object.__class__»
 unfold shownTypeOf
 repeat lk
 exact q
theorem z0g {nm : Value} {Q : Unit -> Shared -> Prop} (C : ClsK K D) (X : K.In s.heap) (p : q5G x D s.heap) (q : Q () s) : wpAny (model prog w) A (checkBuiltinCall "BaseException.__getattribute__" ⟨[.ref x, nm], []⟩) Q E s := by
 obtain ⟨h0, g0, d0, t0, o0⟩ := s
 have k1 : builtinKind "BaseException.__getattribute__" = some .slot := by decide +kernel
 have k2 : splitId "BaseException.__getattribute__" = some ("BaseException", "__getattribute__") := by decide +kernel
 have T0 := p.ty (M := model prog w)
 have T1 := looks_mroIn (M := model prog w) X C.mb
 have ha := F.args_bexc_ga (.ref x) nm
 simp only [checkBuiltinCall, k1, k2]
 refine wpAny_bind ((show Looks (model prog w) _ (isInstance (.ref x) (.type "BaseException")) true from T0.andThen T1).at ?_)
 repeat (any_goals (first | assumption | wp_step))
theorem q9t {tk : Tok} {Q : Fin -> Shared -> Prop} (C : ClsK K D) (X : K.In s.heap) (p : q5G x D s.heap) (q : Q (.done (.ret (.ref D))) s) : wpAny (model prog w) A (Builtin.«object.__getattribute__» ⟨[.ref x, .str "__class__" tk], []⟩) Q E s := by
 obtain ⟨h0, g0, d0, t0, o0⟩ := s
 have T0 := p.ty (M := model prog w)
 have T3 := q9q (M := model prog w) (x := x) X C.fc C.sg C.tk
 unfold Builtin.«object.__getattribute__»
 repeat (any_goals (first | assumption | with_reducible refine T0.at ?_ | with_reducible refine T3.at ?_ | wp_step))
 refine z1u X p C.mo ?_
 repeat (any_goals (first | assumption | wp_step))
theorem q9J {Q : Option Value -> Shared -> Prop} (C : ClsK K D) (X : K.In s.heap) (p : q5G x D s.heap) (q : Q (some (.ref D)) { s with toks := s.toks + 1 }) : wpAny (model prog w) A (getAttr? (.ref x) "__class__") Q E s := by
 obtain ⟨h0, g0, d0, t0, o0⟩ := s
 have T0 := p.ty (M := model prog w)
 have T1 := looks_findIn (M := model prog w) X C.ga
 have T2 := looks_findIn (M := model prog w) X C.gt
 have f3 := F.attr_ValueError.ga.bind (.ref x)
 unfold getAttr?
 unfold getAttrBy?
 unfold getAttrBy
 refine wpAny_bind (wpAny_mkText (wpAny_bind (wpAny_attempt (wpAny_holding (wpAny_bind (T0.at (wpAny_bind (T1.at ?_))))))))
 dsimp only
 have ne : (onTheHeap (Value.ref D) && Value.builtin "BaseException.__getattribute__" == Value.builtin "object.__getattribute__") = false := by
  rw [show (Value.builtin "BaseException.__getattribute__" == Value.builtin "object.__getattribute__") = false by decide +kernel, Bool.and_false]
 rw [if_neg (by rw [ne]; exact Bool.false_ne_true)]
 unfold getAttrByItsOwn
 unfold hookBefore
 rw [if_pos (show onTheHeap (Value.ref D) = true from rfl)]
 refine wpAny_bind (T2.at ?_)
 refine wpAny_bind (wpAny_attempt (wpAny_holding ?_))
 unfold callGetattribute
 rw [if_neg (by decide)]
 repeat (any_goals (first | assumption | wp_step))
 refine codeAny_call_builtin F.attr_ValueError.ga.plain F.entry_bexc_ga (z0g C X p (q9t C X p ?_))
 exact handed_on rfl (wpAny_pure q)
theorem z2s (C : ClsK K D) : KitX K (.ref x) (.ref D) (q5G x D) where
 ty := λ _ _ _ p => p.ty
 it := λ M h X _ => by
  obtain ⟨cd, e, _⟩ := any_some C.hd
  unfold clsIn at e
  split at e
  ·rename_i ho
   intro A1 Q1 E1 s1 k1 q1
   unfold isType
   unfold loadHead
   exact wpAny_bind (wpAny_loadPart (k1 _ _ (X _ _ ho)) (wpAny_pure q1))
  ·cases e
 ne := λ h tp dd its n sl X e2 => by
  obtain ⟨cd, e, _⟩ := any_some C.hd
  rw [Bool.eq_false_iff]
  intro z
  have e1 : D = tp := Value.ref.inj (beq_iff_eq.mp z)
  subst e1
  unfold clsIn at e
  split at e
  ·rename_i ho
   cases (X _ _ ho).symm.trans e2
  ·cases e
 ca := λ X p k => q9J C X p k
theorem z1V {c : Value} {b : Bool} {Q : Value -> Shared -> Prop} (C : ClsK K D) (X : K.In s.heap) (p : q5G x D s.heap) (e : kitOne K (.ref D) c = some b) (q : ∀ tk, Q (.bool b) { s with toks := tk }) : wpAny (model prog w) A (call (.builtin "isinstance") [.ref x, c]) Q E s :=
 kia_one (z2s C) X p e (λ z => nomatch z) q
end
end L2
end
section
namespace L2
open PySem PySem.Spec PyProof.Rows
structure Src (P : Program) (w : World) (ia la : Addr) (vs : Array Value) (S : Nat -> Heap -> Prop) : Prop where
 keep : ∀ k h h', S k h -> (∀ o, h.get? ia = some o -> h'.get? ia = some o) -> (∀ o, h.get? la = some o -> h'.get? la = some o) -> S k h'
 there : ∀ k h, S k h -> ∃ o xs, h.get? ia = some o /\ o.data = .fields xs
 step : ∀ {A : Around} {E : Value -> Shared -> Prop} {s : Shared} {Q : Value -> Shared -> Prop} (k : Nat) (x : Value), S k s.heap -> vs[k]? = some x -> (∀ h', S (k + 1) h' -> Heap.SameBut ia s.heap h' -> Q x { s with heap := h' }) ->
  wpAny (model P w) A (Builtin.SmallTypes.nextOf (.ref ia)) Q E s
 stop : ∀ {A : Around} {E : Value -> Shared -> Prop} {s : Shared} {Q : Value -> Shared -> Prop} (k : Nat), A.handled = none -> S k s.heap -> vs[k]? = none ->
  (∀ h' e, Heap.ExtBut ia s.heap h' -> (∃ o, h'.get? e = some o /\ o.cls = .type "StopIteration") -> E (.ref e) { s with heap := h' }) -> wpAny (model P w) A (Builtin.SmallTypes.nextOf (.ref ia)) Q E s
section
variable {P : Program} {w : World} {A : Around} {E : Value -> Shared -> Prop} {s : Shared}
variable {Z U W a b l1 l2 : Addr} {k : Nat} {vs1 vs2 : Array Value} {S1 S2 : Nat -> Heap -> Prop} {x y c d : Value}
end
end L2
end
section
namespace PySem
section
variable {prog : Program} {w : World} {A : Around} {E : Value -> Shared -> Prop} {s : Shared}
theorem q2H (a b : Int) : Builtin.Range.rangeSize a b (-1) = if b < a then a - b else 0 := by
 unfold Builtin.Range.rangeSize
 simp
theorem q7l {a b : Int} (ha : -(2 ^ 62) <= a) (ha' : a < 2 ^ 62) (hb : -(2 ^ 62) <= b) (hb' : b < 2 ^ 62) : Builtin.Range.small a b (-1) = true := by
 unfold Builtin.Range.small
 rw [q2H]
 simp only [Builtin.Range.rangeFitsLong, Bool.and_eq_true, Bool.or_eq_true, decide_eq_true_eq, beq_iff_eq, show ¬ ((-1 : Int) > 0) by decide, if_false]
 split <;> omega
end
end PySem
namespace L2
open PySem PySem.Spec PyProof.Rows
variable {X : Cx} {tg : Expr}
noncomputable def Itd (hi : Int) (n : Nat) : It := ⟨λ i _ => i < n, λ i H x H' => H' = H /\ x = .int (hi - i), λ i _ => n <= i⟩
theorem q8F {P : Program} {w : World} {K : PySem.W.Frag} {tg : Expr} (it : Addr) (hi : Int) (n : Nat) : Turn P w K tg (Itd hi n) [it] it (λ i h => IsRangeIter h it (hi + (i : Nat) * (-1)) ((n : Int) - (i : Nat)) (-1)) where
 mem := by simp
 obj := λ i h st b hb => by
  have e : b = it := by simpa using hb
  subst e
  exact ⟨_, st, λ v z => by
   have z' : Data.fields _ = Data.cell v := z
   cases z'⟩
 keep := λ i h h' st k => k it (by simp) _ st
 item := by
  intro X hP hw hK hc i pins s σ H E I hf st hg
  subst hP hw hK
  obtain ⟨f0, f1, f2, f3, f4, f5⟩ := hf it (by simp)
  have W := Walks.range (prog := X.prog) (w := X.w) (I.ok.hd hc) it hi (-1) n
  refine W.item i s _ _ hg st λ v h' tk hv st' kk => ?_
  obtain ⟨t, rfl⟩ := hv
  have I1 : Inv X pins σ H { s with heap := h', toks := tk } := I.turned (λ b o hb e => kk b o (by simpa using hb) e) f0 f1 f3 f4 f5
  refine ⟨_, rfl, q9C (s := { s with heap := h', toks := tk }) (n := "range_iterator") st' rfl rfl (by decide) ⟨.int (hi - i), H, I1, ⟨t, ?_⟩, ⟨rfl, rfl⟩, st', λ b hb => (hf b hb).1⟩⟩
  rw [show hi + (i : Int) * (-1) = hi - i by omega]
 done := by
  intro X hP hw hK hc i pins s σ H E I hf st hg
  subst hP hw hK
  obtain ⟨f0, f1, f2, f3, f4, f5⟩ := hf it (by simp)
  exact wpAny_pyNext_range_end (I.ok.hd hc) st (by have : n <= i := hg; omega) λ h' eb => ⟨rfl, I.turned (t' := s.toks) (λ b o hb e => eb b o hb e) f0 f1 f3 f4 f5⟩
 self := λ _ _ _ _ _ st h => wpAny_pyIter_rangeiter st h
theorem z2G {pins : List (Addr × Obj)} {σ : St} {H : Hp} {s : Shared} {R : It -> Hp -> Prop} {E : Value -> Shared -> Prop} {lo hi : Int} {t u v : Tok} {tk : Nat} (I : Inv X pins σ H s) (h1 : -(2 ^ 62) <= lo) (h2 : lo < 2 ^ 62) (h3 : -(2 ^ 62) <= hi) (h4 : hi < 2 ^ 62)
  (q : R (Itd lo (lo - hi).toNat) H) : wpAny (model X.prog X.w) X.A (pyIter (.ref s.heap.objs.size)) (PIE X pins σ tg R) E { s with heap := s.heap.push { cls := .type "range", data := .fields #[.int lo t, .int hi u, .int (-1) v] }, toks := tk } := by
 refine wpAny_pyIter_range (IsRange.new ..) (q7l h1 h2 h3 h4) ?_
 have I1 : Inv X pins σ H { s with heap := s.heap.push { cls := .type "range", data := .fields #[.int lo t, .int hi u, .int (-1) v] }, toks := tk } := I.kept λ b o e => Heap.get?_push_of_some _ e
 refine ⟨(s.heap.push { cls := .type "range", data := .fields #[.int lo t, .int hi u, .int (-1) v] }).objs.size, [(s.heap.push { cls := .type "range", data := .fields #[.int lo t, .int hi u, .int (-1) v] }).objs.size], _, _, H, rfl,
  I1.kept (t' := tk) λ b o e => Heap.get?_push_of_some _ e, q8F _ lo (lo - hi).toNat, ?_, λ b hb => ?_, q⟩
 ·have e1 : lo + ((0 : Nat) : Int) * (-1) = lo := by simp
  have e2 : (((lo - hi).toNat : Nat) : Int) - ((0 : Nat) : Int) = Builtin.Range.rangeSize lo hi (-1) := by rw [q2H]; split <;> omega
  show IsRangeIter _ _ (lo + ((0 : Nat) : Int) * (-1)) ((((lo - hi).toNat : Nat) : Int) - ((0 : Nat) : Int)) (-1)
  rw [e1, e2]
  exact Heap.get?_push_size _ rfl
 ·have e : b = (s.heap.push { cls := .type "range", data := .fields #[.int lo t, .int hi u, .int (-1) v] }).objs.size := by simpa using hb
  subst e
  exact I1.fpOk (Nat.le_refl _) (I1.hok.fresh (Nat.le_refl _))
noncomputable def z5b (ta : TA) : TI := λ σ H R => ta σ H λ vs H1 => ∃ i j : Int, vs = [.int i, .int j, .int (-1)] /\ (-(2 ^ 62) <= i /\ i < 2 ^ 62 /\ -(2 ^ 62) <= j /\ j < 2 ^ 62) /\ R (Itd i (i - j).toNat) H1
theorem noPl (a : Int) : Builtin.divisionGoesByPylong a (-1) = false := PyProof.noPylong_small (by omega)
theorem q8Y {a b c : Expr} {ta : TA} {p pos : Pos} (hg : Gl X "range") (hm : X.mg "range" = none) (ha : PA X [a, b, c] ta) (hs : starEach [a, b, c] X.env = [(false, eval a X.env), (false, eval b X.env), (false, eval c X.env)]) (hs2 : starEach [b, c] X.env = [(false, eval b X.env), (false, eval c X.env)]) :
  PI X tg (.Call (.Name "range" p) [a, b, c] [] pos) (z5b ta) := by
 intro pins s σ H R I h
 refine Call_ (q4p I hg hm boot_range (PyProof.Rows.callWith_type1 (thn (ha pos pins s σ H _ I h) λ us s1 ⟨vs, H1, I1, r1, q1⟩ => ?_) (by rw [hs, hs2]) (by rw [hs2]; rfl)))
 obtain ⟨i, j, e, ⟨q1, q2, q3, q4⟩, q⟩ := q1
 subst e
 cases r1 with
 | cons r rr =>
  cases rr with
  | cons r' rr =>
   cases rr with
   | cons r'' rr =>
    cases rr
    obtain ⟨t, rfl⟩ := r
    obtain ⟨t', rfl⟩ := r'
    obtain ⟨t'', rfl⟩ := r''
    exact call_range_3 (by decide) (z2G I1 q1 q2 q3 q4 q) (Or.inl (noPl _))
end L2
end
section
namespace L2
open PySem
inductive DKey where
 | i (n : Int) | s (x : Str) | t (l : List (Sum Int Str))
 deriving DecidableEq
inductive DV where
 | non | bl (b : Bool) | int (i : Int) | str (x : Str) | tup (ds : List DV) | lst (ds : List DV) | dct (ks : List DKey) (vs : List DV)
 | exc (c : Str) | fn (x : Str)
 | scr (ns : List Int)
inductive Cl where
 | weak | top | strong | fresh | ft
 deriving DecidableEq
inductive Re where
 | ok (d : DV) (c : Cl) | ex (c : Str)
inductive Rs where
 | ok (l : List (DV × Cl)) | ex (c : Str)
inductive Rt where
 | ok (b : Bool) | ex (c : Str)
inductive Sv where
 | no | val (d : DV) | own (d : DV) | ot (d : DV)
 | o2 (d : DV)
inductive Ou where
 | v (d : DV) (fr : Bool) | x (c : Str) | t (d : DV)
inductive Out where
 | nx (δ : List Sv) | rt (d : DV) (fr : Bool) | ex (c : Str) (δ : List Sv) | rtt (d : DV)
inductive Bi where
 | len | abs | min | max | sum | any | all | sorted | sset | lset | int | list | tuple | str | lrng | lsti
 deriving DecidableEq
inductive Mt where
 | bitLength | index | get
 deriving DecidableEq
inductive Tg where
 | one (i : Nat) | many (is : List Nat)
inductive ME where
 | var (i : Nat) | int (i : Int) | bl (b : Bool) | str (x : Str) | non | glb (x : Str)
 | bin (op : Operator) (a b : ME) | neg (a : ME)  | not (a : ME)
 | cmp (op : CmpOp) (a b : ME) | chain (op op' : CmpOp) (a b c : ME)
 | and (es : List ME) | or (es : List ME) | ite (c a b : ME)
 | lst (es : List ME) | tup (es : List ME)
 | ix (a b : ME) | sl (a lo hi : ME) | slf (a lo : ME) | slt (a hi : ME)
 | call (f : Nat) (es : List ME)   | bi (f : Bi) (es : List ME) | isi (a : ME) (ts : List Str) | isx (a : ME) (t : Str)
 | comp (elt : ME) (tg : Tg) (it : ME) (fr : List (Option Nat)) | compi (elt : ME) (tg : Tg) (it c : ME) (fr : List (Option Nat))
 | rng (es : List ME)
inductive MS where
 | set (i : Nat) (own : Bool) (e : ME)  | par (is : List Nat) (es : List ME)
 | app (i : Nat) (e : ME) | ext (i : Nat) (e : ME) | seti (i : Nat) (k e : ME)
 | exp (e : ME) | ret (e : ME)  | iff (c : ME) (a b : List MS) | fo (tg : Tg) (it : ME) (body : List MS) | wh (c : ME) (body : List MS)
 | ret0 (es : List ME)
 | rse (c : Str) (e : ME) | tryc (body : List MS) (c : Str) (ie ic : Nat)
 | frz (i : Nat)
structure FD where
 n : Nat
 np : Nat
 dfl : List DV := []
 kn : Option Str := none
 body : List MS
noncomputable def Re.thn (r : Option Re) (k : DV -> Cl -> Option Re) : Option Re := match r with
 | none => none
 | some (.ex c) => some (.ex c)
 | some (.ok d c) => k d c
noncomputable def Rs.thn (r : Option Rs) (k : List (DV × Cl) -> Option Re) : Option Re := match r with
 | none => none
 | some (.ex c) => some (.ex c)
 | some (.ok l) => k l
noncomputable def Rt.thn (r : Option Rt) (k : Bool -> Option Re) : Option Re := match r with
 | none => none
 | some (.ex c) => some (.ex c)
 | some (.ok b) => k b
noncomputable def Re.thnT (r : Option Re) (k : DV -> Cl -> Option Rt) : Option Rt := match r with
 | none => none
 | some (.ex c) => some (.ex c)
 | some (.ok d c) => k d c
mutual
noncomputable def DV.immut : DV -> Bool
 | .non => true | .bl _ => true | .int _ => true | .str _ => true | .exc _ => true | .fn _ => true | .scr _ => true
 | .tup ds => DV.immuts ds
 | .lst _ => false | .dct _ _ => false
noncomputable def DV.immuts : List DV -> Bool
 | [] => true
 | d :: r => d.immut && DV.immuts r
end
noncomputable def stro (d : DV) : Cl -> Bool
 | .strong => true | .fresh => true | .ft => true | _ => d.immut
noncomputable def stros (l : List (DV × Cl)) : Bool := l.all λ p => stro p.1 p.2
noncomputable def Cl.item : Cl -> Cl
 | .weak => .weak | _ => .strong
noncomputable def Cl.anew : Cl -> Cl -> Cl
 | .weak, _ => .weak | _, .weak => .weak | _, _ => .fresh
noncomputable def Cl.notF : Cl -> Cl
 | .fresh => .strong | c => c
noncomputable def mostLen : Nat := 1000000
mutual
noncomputable def deq : DV -> DV -> Bool
 | .non, .non => true
 | .bl a, .bl b => a == b
 | .bl a, .int j => (if a then 1 else 0) == j
 | .int i, .bl b => i == (if b then 1 else 0)
 | .int i, .int j => i == j
 | .str a, .str b => decide (a = b)
 | .tup a, .tup b => deqs a b
 | .lst a, .lst b => deqs a b
 | _, _ => false
noncomputable def deqs : List DV -> List DV -> Bool
 | [], [] => true
 | a :: r, b :: s => deq a b && deqs r s
 | _, _ => false
end
mutual
noncomputable def DV.plain : Nat -> DV -> Bool
 | _, .non => true | _, .bl _ => true | _, .int _ => true
 | _, .str x => x.cps.all (· < 0x110000)
 | 0, _ => false
 | n + 1, .tup ds => DV.plains n ds | n + 1, .lst ds => DV.plains n ds
 | _, _ => false
noncomputable def DV.plains : Nat -> List DV -> Bool
 | _, [] => true
 | n, d :: r => d.plain n && DV.plains n r
end
noncomputable def q2q : DV -> Option Bool
 | .non => some false
 | .bl b => some b
 | .int i => some (i != 0)
 | .str x => some (x.cps.size != 0)
 | .tup ds => some (!ds.isEmpty)
 | .lst ds => some (!ds.isEmpty)
 | _ => none
noncomputable def q1v (n : Nat) (i : Int) : Option Nat := if 0 <= i then (if i < n then some i.toNat else none) else if -(n : Int) <= i then some (i + n).toNat else none
noncomputable def atD (ds : List DV) (i : Int) : Option DV := (q1v ds.length i).bind λ j => ds[j]?
noncomputable def ixD (a b : DV) : Option DV := match a, b with
 | .scr ns, .int i => ((q1v ns.length i).bind λ j => ns[j]?).map DV.int
 | .lst ds, .int i => atD ds i
 | .tup ds, .int i => atD ds i
 | .str z, .int i => (q1v z.cps.size i).bind λ j => (z.cps[j]?).map λ c => .str ⟨#[c]⟩
 | _, _ => none
noncomputable def slIx (n d : Nat) : Option Int -> Nat
 | none => d
 | some v => if v < 0 then (v + (n : Int)).toNat else min v.toNat n
noncomputable def cutD (ds : List DV) (lo hi : Option Int) : List DV := (ds.drop (slIx ds.length 0 lo)).take (slIx ds.length ds.length hi - slIx ds.length 0 lo)
noncomputable def slD (a : DV) (lo hi : Option Int) : Option DV := match a with
 | .scr ns => some (.lst (cutD (ns.map DV.int) lo hi))
 | .lst ds => some (.lst (cutD ds lo hi))
 | .tup ds => if slIx ds.length 0 lo = 0 /\ slIx ds.length ds.length hi = ds.length then none else some (.tup (cutD ds lo hi))
 | _ => none
noncomputable def slCl (a : DV) (c : Cl) : Cl := match a with
 | .scr _ => .fresh
 | .lst _ => Cl.anew c c
 | _ => c.item
noncomputable def q2l (i j : Int) : Bool := (decide (-(2 ^ 64) < i) && decide (i < 2 ^ 64)) || (decide (-(2 ^ 64) < j) && decide (j < 2 ^ 64)) || (decide (i.natAbs < 2 ^ 200) && decide (j.natAbs < 2 ^ 200))
noncomputable def binD (op : Operator) (a b : DV) (ca cb : Cl) : Option Re := match op, a, b with
 | .Add, .int i, .int j => some (.ok (.int (i + j)) .strong)
 | .Sub, .int i, .int j => some (.ok (.int (i - j)) .strong)
 | .Mult, .int i, .int j => if q2l i j then some (.ok (.int (i * j)) .strong) else none
 | .Mod, .int i, .int j => if 0 < j then some (.ok (.int (i % j)) .strong) else none
 | .FloorDiv, .int i, .int j => if 0 < j /\ j < 2 ^ 200 then some (.ok (.int (i / j)) .strong) else none
 | .Pow, .int i, .int j => if 2 <= i /\ i < 64 /\ 1 <= j /\ j < 64 then some (.ok (.int (i ^ j.toNat)) .strong) else none
 | .RShift, .int i, .int j => if 0 <= j then some (.ok (.int (i / 2 ^ j.toNat)) .strong) else none
 | .BitAnd, .int i, .int j => some (.ok (.int (Builtin.bitAnd i j)) .strong)
 | .Add, .lst x, .lst y => if x.length + y.length <= mostLen then some (.ok (.lst (x ++ y)) (Cl.anew ca cb)) else none
 | .Add, .tup x, .tup y => if x.length + y.length <= mostLen /\ x ≠ [] then some (.ok (.tup (x ++ y)) (Cl.anew ca cb).notF) else none
 | .Mult, .lst x, .int k => if x.length * k.toNat <= mostLen /\ -(2 ^ 63) <= k /\ k < 2 ^ 63 then some (.ok (.lst (List.replicate k.toNat x).flatten) (Cl.anew ca ca)) else none
 | _, _, _ => none
noncomputable def isN : DV -> Bool
 | .non => true
 | _ => false
noncomputable def cmpD (op : CmpOp) (a b : DV) : Option Bool := match op, a, b with
 | .Lt, .int i, .int j => some (decide (i < j))
 | .LtE, .int i, .int j => some (decide (i <= j))
 | .Gt, .int i, .int j => some (decide (j < i))
 | .Eq, a, b => if a.plain 60 && b.plain 60 then some (deq a b) else none
 | .NotEq, a, b => if a.plain 60 && b.plain 60 then some (!deq a b) else none
 | .Is, a, .non => some (isN a)
 | _, _, _ => none
noncomputable def ints? : List DV -> Option (List Int)
 | [] => some []
 | .int i :: r => (ints? r).map (i :: ·)
 | _ => none
noncomputable def minI : Int -> List Int -> Int
 | m, [] => m
 | m, x :: r => minI (if x < m then x else m) r
noncomputable def dk (σ : List Int) (k : Int) : List Int := if k ∈ σ then σ else σ ++ [k]
noncomputable def lenD : List (DV × Cl) -> Option Re
 | [(.lst ds, _)] => some (.ok (.int ds.length) .strong)
 | [(.tup ds, _)] => some (.ok (.int ds.length) .strong)
 | [(.scr ns, _)] => some (.ok (.int ns.length) .strong)
 | [(.str z, _)] => some (.ok (.int z.length) .strong)
 | _ => none
noncomputable def absD : List (DV × Cl) -> Option Re
 | [(.int i, _)] => some (.ok (.int (if i < 0 then -i else i)) .strong)
 | _ => none
noncomputable def trips? : List DV -> Option (List (Int × Int × Int))
 | [] => some []
 | .tup [.int a, .int b, .int c] :: r => (trips? r).map ((a, b, c) :: ·)
 | _ => none
noncomputable def ltT (p q : Int × Int × Int) : Bool := decide (p.1 < q.1) || (p.1 == q.1 && (decide (p.2.1 < q.2.1) || (p.2.1 == q.2.1 && decide (p.2.2 < q.2.2))))
noncomputable def q3k : Int × Int × Int -> List (Int × Int × Int) -> Int × Int × Int
 | m, [] => m
 | m, x :: r => q3k (if ltT x m then x else m) r
noncomputable def trD (p : Int × Int × Int) : DV := .tup [.int p.1, .int p.2.1, .int p.2.2]
noncomputable def minD : List (DV × Cl) -> Option Re
 | [(.int i, _), (.int j, _)] => some (.ok (.int (if j < i then j else i)) .strong)
 | [(.lst ds, c)] => match ints? ds with
  | some (n :: r) => some (.ok (.int (minI n r)) .strong)
  | _ => match trips? ds with
   | some (n :: r) => some (.ok (trD (q3k n r)) c.item)
   | _ => none
 | [(.tup ds, _)] => match ints? ds with
  | some (n :: r) => some (.ok (.int (minI n r)) .strong)
  | _ => none
 | _ => none
noncomputable def sumD : List (DV × Cl) -> Option Re
 | [(.lst ds, _)] => (ints? ds).map λ ns => .ok (.int ns.sum) .strong
 | _ => none
noncomputable def q6a : List (DV × Cl) -> Option Re
 | [(.scr ns, _)] => some (.ok (.lst (ns.map DV.int)) .fresh)
 | [(.lst ds, c)] => some (.ok (.lst ds) (Cl.anew c c))
 | [(.tup ds, c)] => some (.ok (.lst ds) (Cl.anew c c))
 | _ => none
noncomputable def q4q : List (DV × Cl) -> Option Re
 | [(.lst ds, c)] => some (.ok (.tup ds) c.item)
 | [(.tup ds, c)] => some (.ok (.tup ds) c)
 | _ => none
noncomputable def biD (f : Bi) (l : List (DV × Cl)) : Option Re := match f with
 | .len => lenD l
 | .abs => absD l
 | .min => minD l
 | .list => q6a l
 | .tuple => q4q l
 | .sum => sumD l
 | _ => none
noncomputable def biOk : Bi -> Bool
 | .len => true | .abs => true | .min => true | .list => true | .tuple => true | .sum => true
 | _ => false
structure Gs where
 dcs : List (Str × List (Str × Str)) := []
 con : List (Str × DV)
 cls : List (Str × List Str)
 dfl : List (Nat × List DV) := []
 kws : List (Nat × Str) := []
noncomputable def q1I (G : Gs) (c c' : Str) : Bool := c == c' || ((G.cls.lookup c).getD []).contains c'
noncomputable def isxD (G : Gs) (d : DV) (t : Str) : Option Bool := match d with
 | .exc c => if (G.cls.lookup c).isSome then some (q1I G c t) else none
 | _ => none
noncomputable def tyOf : DV -> List Str
 | .non => ["NoneType"]
 | .bl _ => ["bool", "int"]
 | .int _ => ["int"]
 | .str _ => ["str"]
 | .tup _ => ["tuple"]
 | .lst _ => ["list"]
 | .dct _ _ => ["dict"]
 | _ => []
noncomputable def q1i : List Str := ["int", "bool", "str", "list", "tuple", "dict"]
noncomputable def isiD (G : Gs) (d : DV) (ts : List Str) : Option Bool := match d with
 | .scr _ => none
 | .exc _ => none
 | .fn _ => none
 | d => match ts with
  | [t] => if q1i.contains t then some ((tyOf d).contains t) else none
  | [t, u] => if q1i.contains t && q1i.contains u then some ((tyOf d).contains t || (tyOf d).contains u) else none
  | _ => none
noncomputable def upTo (lo : Int) (n : Nat) : List DV := (List.range n).map λ (i : Nat) => DV.int (lo + i)
noncomputable def q4n (lo : Int) (n : Nat) : List DV := (List.range n).map λ (i : Nat) => DV.int (lo - i)
noncomputable def q1m (i : Int) : Bool := decide (-(2 ^ 62) <= i) && decide (i < 2 ^ 62)
noncomputable def rngD (l : List (DV × Cl)) : Option (List DV) := match l with
 | [(.int j, _)] => if q1m j && decide (j <= mostLen) then some (upTo 0 j.toNat) else none
 | [(.int i, _), (.int j, _)] => if q1m i && q1m j && decide (j - i <= mostLen) then some (upTo i (j - i).toNat) else none
 | [(.int i, _), (.int j, _), (.int k, _)] => if q1m i && q1m j && decide (i - j <= mostLen) && decide (k = -1) then some (q4n i (i - j).toNat) else none
 | _ => none
noncomputable def q7U : DV -> Option (Bool × List DV)
 | .lst ds => some (false, ds)
 | .tup ds => some (true, ds)
 | _ => none
noncomputable def seqD : DV -> Option (List DV)
 | .scr ns => some (ns.map DV.int)
 | .lst ds => some ds
 | .tup ds => some ds
 | _ => none
noncomputable def q4y (δ : List Sv) : List Nat -> List DV -> Option (List Sv)
 | [], [] => some δ
 | i :: is, d :: ds => q4y (δ.set i (.val d)) is ds
 | _, _ => none
noncomputable def Tg.bind (tg : Tg) (d : DV) (δ : List Sv) : Option (List Sv) := match tg with
 | .one i => some (δ.set i (.val d))
 | .many is => match d with
  | .tup ds => q4y δ is ds
  | _ => none
noncomputable def Sv.plain : Sv -> Sv
 | .ot _ => .no
 | .o2 _ => .no
 | s => s
noncomputable def q0x (fr : List (Option Nat)) (δ : List Sv) : List Sv := fr.map λ o => match o with
 | some i => (δ.getD i .no).plain
 | none => .no
inductive Rc where
 | skip | item (d : DV)
noncomputable def q0L (g : DV -> Option Rc) : List DV -> Option (List DV)
 | [] => some []
 | d :: r => match g d with
  | none => none
  | some .skip => q0L g r
  | some (.item x) => match q0L g r with
   | none => none
   | some xs => some (x :: xs)
noncomputable def q1D (r : Option (List DV)) : Option Re := match r with
 | none => none
 | some xs => some (.ok (.lst xs) .fresh)
noncomputable def q2w (r : Option (List DV)) : Option Re := match r with
 | none => none
 | some xs => some (.ok (.lst xs) .weak)
noncomputable def Rc.of (r : Option Re) : Option Rc := match r with
 | some (.ok d c) => if stro d c then some (.item d) else none
 | _ => none
noncomputable def Rc.test (t : Option Rt) (r : Option Rc) : Option Rc := match t with
 | some (.ok true) => r
 | some (.ok false) => some .skip
 | _ => none
inductive Ri where
 | ok (ds : List DV) (c : Cl) | ex (c : Str)
noncomputable def Ri.thn (r : Option Ri) (k : List DV -> Cl -> Option Re) : Option Re := match r with
 | none => none
 | some (.ex c) => some (.ex c)
 | some (.ok ds c) => k ds c
noncomputable def Re.thnI (r : Option Re) (k : DV -> Cl -> Option Ri) : Option Ri := match r with
 | none => none
 | some (.ex c) => some (.ex c)
 | some (.ok d c) => k d c
noncomputable def z5D (d : DV) (c : Cl) : Option Ri := (seqD d).map λ ds => .ok ds c
noncomputable def q2A (F : Nat -> List DV -> Option Ou) (f : Nat) (l : List (DV × Cl)) : Option Re := match F f (l.map (·.1)) with
 | none => none
 | some (.x c) => some (.ex c)
 | some (.t d) => some (.ok d (if l.all λ p => p.2 == .strong || p.2 == .fresh then (match d with | .lst _ => .fresh | _ => .ft) else .weak))
 | some (.v d fr) => some (.ok d (if l.all λ p => p.2 == .strong || p.2 == .fresh then (if fr then .fresh else .strong) else .weak))
noncomputable def andD (x : DV) (c : Cl) (r : Option Re) : Option Re := match q2q x with
 | none => none
 | some true => r
 | some false => some (.ok x c)
noncomputable def orD (x : DV) (c : Cl) (r : Option Re) : Option Re := match q2q x with
 | none => none
 | some true => some (.ok x c)
 | some false => r
noncomputable def tstD (r : Option Re) : Option Rt := Re.thnT r λ x _ => (q2q x).map Rt.ok
noncomputable def q1l (r : Option Re) : Option Ri := Re.thnI r λ x c => z5D x c
mutual
noncomputable def evE (G : Gs) (F : Nat -> List DV -> Option Ou) : ME -> List Sv -> Option Re
 | .var i, δ => match δ[i]? with
  | some (.val d) => some (.ok d .strong)
  | some (.own d) => some (.ok d .top)
  | some (.ot d) => some (.ok d .weak)
  | some (.o2 d) => some (.ok d .weak)
  | _ => none
 | .int i, _ => some (.ok (.int i) .strong)
 | .bl i, _ => some (.ok (.bl i) .strong)
 | .str i, _ => some (.ok (.str i) .strong)
 | .non, _ => some (.ok .non .strong)
 | .glb x, _ => (G.con.lookup x).map λ d => .ok d .strong
 | .bin op a b, δ => Re.thn (evE G F a δ) λ x cx => Re.thn (evE G F b δ) λ y cy => binD op x y cx cy
 | .neg a, δ => Re.thn (evE G F a δ) λ x _ => match x with | .int i => some (.ok (.int (-i)) .strong) | _ => none
 | .not a, δ => Re.thn (evE G F a δ) λ x _ => (q2q x).map λ k => .ok (.bl (!k)) .strong
 | .cmp op a b, δ => Re.thn (evE G F a δ) λ x _ => Re.thn (evE G F b δ) λ y _ => (cmpD op x y).map λ k => .ok (.bl k) .strong
 | .chain op op' a b c, δ => Re.thn (evE G F a δ) λ x _ => Re.thn (evE G F b δ) λ y _ => match cmpD op x y with
  | none => none
  | some false => some (.ok (.bl false) .strong)
  | some true => Re.thn (evE G F c δ) λ z _ => (cmpD op' y z).map λ k => .ok (.bl k) .strong
 | .and es, δ => q2T G F es δ
 | .or es, δ => evOr G F es δ
 | .ite c a b, δ => Rt.thn (tstD (evE G F c δ)) λ k => if k then evE G F a δ else evE G F b δ
 | .lst es, δ => Rs.thn (evEs G F es δ) λ l => if l.length <= mostLen then some (.ok (.lst (l.map (·.1))) (if stros l then .fresh else .weak)) else none
 | .tup es, δ => Rs.thn (evEs G F es δ) λ l => if l.length <= mostLen then some (.ok (.tup (l.map (·.1))) (if stros l then .strong else .weak)) else none
 | .ix a b, δ => Re.thn (evE G F a δ) λ x cx => Re.thn (evE G F b δ) λ y _ => (ixD x y).map λ d => .ok d cx.item
 | .sl a lo hi, δ => Re.thn (evE G F a δ) λ x cx => Re.thn (evE G F lo δ) λ l _ => match l with
  | .int l => Re.thn (evE G F hi δ) λ h _ => (match h with
   | .int h => (slD x (some l) (some h)).map λ d => .ok d (slCl x cx)
   | _ => none)
  | _ => none
 | .slf a lo, δ => Re.thn (evE G F a δ) λ x cx => Re.thn (evE G F lo δ) λ l _ => match l with
  | .int l => (slD x (some l) none).map λ d => .ok d (slCl x cx)
  | _ => none
 | .slt a hi, δ => Re.thn (evE G F a δ) λ x cx => Re.thn (evE G F hi δ) λ h _ => match h with
  | .int h => (slD x none (some h)).map λ d => .ok d (slCl x cx)
  | _ => none
 | .call f es, δ => Rs.thn (evEs G F es δ) λ l => q2A F f l
 | .bi f es, δ => if biOk f then Rs.thn (evEs G F es δ) λ l => biD f l else none
 | .isi a ts, δ => Re.thn (evE G F a δ) λ x _ => (isiD G x ts).map λ k => .ok (.bl k) .strong
 | .isx a t, δ => Re.thn (evE G F a δ) λ x _ => (isxD G x t).map λ k => .ok (.bl k) .strong
 | .comp elt tg it fr, δ => Ri.thn (q1l (evE G F it δ)) λ ds c => if c = .weak \/ mostLen < ds.length then (if c = .weak /\ ds.length <= mostLen then q2w (q0L (λ d => (tg.bind d (q0x fr [])).bind λ δ' => Rc.of (evE G F elt δ')) ds) else none) else q1D (q0L (λ d => (tg.bind d (q0x fr δ)).bind λ δ' => Rc.of (evE G F elt δ')) ds)
 | .compi elt tg it cd fr, δ => Ri.thn (q1l (evE G F it δ)) λ ds c => if c = .weak \/ mostLen < ds.length then none else q1D (q0L (λ d => (tg.bind d (q0x fr δ)).bind λ δ' => Rc.test (tstD (evE G F cd δ')) (Rc.of (evE G F elt δ'))) ds)
 | .rng es, δ => Rs.thn (evEs G F es δ) λ l => (rngD l).map λ ds => .ok (.lst ds) .fresh
noncomputable def evEs (G : Gs) (F : Nat -> List DV -> Option Ou) : List ME -> List Sv -> Option Rs
 | [], _ => some (.ok [])
 | e :: es, δ => match evE G F e δ with
  | none => none
  | some (.ex c) => some (.ex c)
  | some (.ok d c) => match evEs G F es δ with
   | none => none
   | some (.ex c) => some (.ex c)
   | some (.ok l) => some (.ok ((d, c) :: l))
noncomputable def q2T (G : Gs) (F : Nat -> List DV -> Option Ou) : List ME -> List Sv -> Option Re
 | [], _ => none
 | e :: es, δ => if es.isEmpty then evE G F e δ else Re.thn (evE G F e δ) λ x c => andD x c (q2T G F es δ)
noncomputable def evOr (G : Gs) (F : Nat -> List DV -> Option Ou) : List ME -> List Sv -> Option Re
 | [], _ => none
 | e :: es, δ => if es.isEmpty then evE G F e δ else Re.thn (evE G F e δ) λ x c => orD x c (evOr G F es δ)
end
noncomputable def Re.thnS (δ : List Sv) (r : Option Re) (k : DV -> Cl -> Option Out) : Option Out := match r with
 | none => none
 | some (.ex c) => some (.ex c δ)
 | some (.ok d c) => k d c
noncomputable def Rs.thnS (δ : List Sv) (r : Option Rs) (k : List (DV × Cl) -> Option Out) : Option Out := match r with
 | none => none
 | some (.ex c) => some (.ex c δ)
 | some (.ok l) => k l
noncomputable def Rt.thnS (δ : List Sv) (r : Option Rt) (k : Bool -> Option Out) : Option Out := match r with
 | none => none
 | some (.ex c) => some (.ex c δ)
 | some (.ok b) => k b
noncomputable def Ri.thnS (δ : List Sv) (r : Option Ri) (k : List DV -> Cl -> Option Out) : Option Out := match r with
 | none => none
 | some (.ex c) => some (.ex c δ)
 | some (.ok ds c) => k ds c
noncomputable def q1y (tg : Tg) (body : List Sv -> Option Out) : List DV -> List Sv -> Option Out
 | [], δ => some (.nx δ)
 | d :: r, δ => match tg.bind d δ with
  | none => none
  | some δ1 => match body δ1 with
   | some (.nx δ2) => q1y tg body r δ2
   | o => o
noncomputable def q0Y (test : List Sv -> Option Rt) (body : List Sv -> Option Out) : Nat -> List Sv -> Option Out
 | 0, _ => none
 | n + 1, δ => match test δ with
  | none => none
  | some (.ex c) => some (.ex c δ)
  | some (.ok false) => some (.nx δ)
  | some (.ok true) => match body δ with
   | some (.nx δ2) => q0Y test body n δ2
   | o => o
noncomputable def frD : DV -> Cl -> Bool
 | .lst _, .fresh => true | .lst _, .top => true
 | _, _ => false
noncomputable def noOt (i : Nat) (δ : List Sv) : Bool := (List.range δ.length).all λ j => j == i || (match δ[j]? with | some (.ot _) => false | some (.o2 _) => false | _ => true)
noncomputable def q3H (i : Nat) (δ : List Sv) (d : DV) (c : Cl) : Option Out := match c with
 | .fresh => some (.nx (δ.set i (.own d)))
 | .ft => if noOt i δ then some (.nx (δ.set i (.ot d))) else none
 | _ => none
noncomputable def retD (d : DV) (c : Cl) : Out := match c with
 | .ft => .rtt d
 | _ => .rt d (frD d c)
noncomputable def q7F (l : List (DV × Cl)) : Option Out := match l with
 | (.lst ds, .top) :: l' => if l'.length < mostLen /\ stros l' then some (.rtt (.tup (.lst ds :: l'.map (·.1)))) else none
 | _ => none
noncomputable def parD (δ : List Sv) (is : List Nat) (l : List (DV × Cl)) : Option Out := match is, l with
 | [i, j], [(x, cx), (y, cy)] => if i ≠ j /\ stro x cx = true /\ stro y cy = true then some (.nx ((δ.set i (.val x)).set j (.val y))) else none
 | _, _ => none
noncomputable def tryD (G : Gs) (c : Str) (ie ic : Nat) (r : Option Out) : Option Out := match r with
 | some (.ex c' δ') => if (G.cls.lookup c').isSome /\ q1I G c' c /\ ie < δ'.length /\ ie ≠ ic then some (.nx ((δ'.set ic (.val (.exc c'))).set ie .no)) else none
 | o => o
mutual
noncomputable def evS (G : Gs) (F : Nat -> List DV -> Option Ou) (fu : Nat) : MS -> List Sv -> Option Out
 | .set i own e, δ => Re.thnS δ (evE G F e δ) λ d c => if own then q3H i δ d c else (if stro d c then some (.nx (δ.set i (.val d))) else none)
 | .par is es, δ => Rs.thnS δ (evEs G F es δ) λ l => parD δ is l
 | .app i e, δ => match δ[i]? with
  | some (.own (.lst ds)) => Re.thnS δ (evE G F e δ) λ d c => if stro d c /\ ds.length < mostLen then some (.nx (δ.set i (.own (.lst (ds ++ [d]))))) else none
  | _ => none
 | .ext i e, δ => match δ[i]? with
  | some (.own (.lst ds)) => Re.thnS δ (evE G F e δ) λ d c => if c = .strong \/ c = .fresh then (match q7U d with
   | some (_, ys) => if ds.length + ys.length <= mostLen then some (.nx (δ.set i (.own (.lst (ds ++ ys))))) else none
   | none => none) else none
  | _ => none
 | .seti i k e, δ => match δ[i]? with
  | some (.own (.lst ds)) => Re.thnS δ (evE G F e δ) λ d c => Re.thnS δ (evE G F k δ) λ k _ => (match k with
   | .int k => (match q1v ds.length k with
    | some j => if stro d c then some (.nx (δ.set i (.own (.lst (ds.set j d))))) else none
    | none => none)
   | _ => none)
  | _ => none
 | .exp e, δ => Re.thnS δ (evE G F e δ) λ _ _ => some (.nx δ)
 | .ret e, δ => Re.thnS δ (evE G F e δ) λ d c => some (retD d c)
 | .ret0 es, δ => Rs.thnS δ (evEs G F es δ) λ l => q7F l
 | .iff c a b, δ => Rt.thnS δ (tstD (evE G F c δ)) λ k => if k then evSs G F fu a δ else evSs G F fu b δ
 | .fo tg it body, δ => Ri.thnS δ (q1l (evE G F it δ)) λ ds c => if c = .strong \/ c = .fresh then q1y tg (λ δ' => evSs G F fu body δ') ds δ else none
 | .wh c body, δ => q0Y (λ δ' => tstD (evE G F c δ')) (λ δ' => evSs G F fu body δ') fu δ
 | .rse c e, δ => if (G.cls.lookup c).isSome then Re.thnS δ (evE G F e δ) λ _ _ => some (.ex c δ) else none
 | .tryc body c ie ic, δ => tryD G c ie ic (evSs G F fu body δ)
 | .frz i, δ => match δ[i]? with
  | some (.own d) => some (.nx (δ.set i (.val d)))
  | _ => some (.nx δ)
noncomputable def evSs (G : Gs) (F : Nat -> List DV -> Option Ou) (fu : Nat) : List MS -> List Sv -> Option Out
 | [], δ => some (.nx δ)
 | s :: r, δ => match evS G F fu s δ with
  | some (.nx δ') => evSs G F fu r δ'
  | o => o
end
noncomputable def q0D (n : Nat) (ds : List DV) : List Sv := ds.map Sv.val ++ List.replicate (n - ds.length) .no
noncomputable def Ou.of (o : Option Out) : Option Ou := match o with
 | some (.nx _) => some (.v .non false)
 | some (.rt d fr) => some (.v d fr)
 | some (.rtt d) => some (.t d)
 | some (.ex c _) => some (.x c)
 | none => none
noncomputable def run (G : Gs) (T : List FD) (fu : Nat) : Nat -> Nat -> List DV -> Option Ou
 | 0, _, _ => none
 | k + 1, f, ds => match T[f]? with
  | none => none
  | some fd => if ds.length = fd.np then Ou.of (evSs G (run G T fu k) fu fd.body (q0D fd.n ds)) else none
end L2
end
section
namespace L2
open PySem
noncomputable def Rise (xs : Array Nat) : Prop := ∀ (i k x y : Nat), i < k -> xs[i]? = some x -> xs[k]? = some y -> x < y
structure Tab (t : SetTable) (b : Bool) : Prop where
 rise : Rise t.place
 dum : t.dummies = #[]
 led : t.led = b
end L2
end
section
namespace L2
open PySem
section
variable {prog : Program} {w : World} {A : Around} {E : Value -> Shared -> Prop} {s : Shared} {a : Addr} {ks : List Int}
theorem z6e {h : Heap} {o : Obj} {es es' : Array (Int × Value)} {ep : Nat} {t t' : SetTable} (ho : h.get? a = some o) (hd : o.data = .set es ep t) :
  (h.update a (Obj.putSet es' t')).get? a = some { o with data := .set es' (ep + 1) t' } := by
 have q := Heap.get?_update_self (Obj.putSet es' t') ho (by rw [putSet_of es' t' hd]; rfl)
 rwa [putSet_of es' t' hd] at q
end
end L2
end
section
namespace L2
open PySem PySem.Spec PyProof.Rows
section
variable {prog : Program} {w : World} {A : Around} {E : Value -> Shared -> Prop} {s : Shared}
theorem z4p {l : List Int} {i : Nat} (h : i < l.length) : l.getD i 0 ∈ l := by
 rw [List.getD_eq_getElem?_getD, List.getElem?_eq_getElem h]
 exact List.getElem_mem h
theorem minL {l : Addr} {vs : List Value} {ns : List Int} {Q : Value -> Shared -> Prop} (hh : A.handled = none) (hl : s.heap.IsList l vs.toArray) (hi : IntsAre vs ns) (hz : ns ≠ [])
  (h : ∀ h' M (t : Tok) tk, (∀ b o, s.heap.get? b = some o -> h'.get? b = some o) -> M ∈ ns -> (∀ a ∈ ns, M <= a) -> Q (.int M t) { s with heap := h', toks := tk }) : wpAny (model prog w) A (call (.builtin "min") [.ref l]) Q E s := by
 obtain ⟨ys, e⟩ := hi.allInts.items
 have en : ns = ys.toList.map (·.1) := by rw [← hi.numsOf, ← nums_intItems, ← e]
 have zy : 0 < ys.size := by
  have q : 0 < ns.length := List.length_pos_iff.mpr hz
  rwa [en, List.length_map, Array.length_toList] at q
 rw [e] at hl
 refine min_intList hh hl zy λ v h1 tk q k => ?_
 obtain ⟨t, ev⟩ := intItems_at q
 subst ev
 obtain ⟨g1, g2⟩ := argBest_lt (numAt ys) (ys.size - 1)
 refine h h1 _ t tk k ?_ λ a ha => ?_
 ·rw [en, numAt_eq]
  exact z4p (by rw [List.length_map, Array.length_toList]; omega)
 ·rw [en] at ha
  obtain ⟨j, hj, ej⟩ := mem_getD ha
  subst ej
  rw [List.length_map, Array.length_toList] at hj
  rw [← numAt_eq]
  exact g2 j (by omega)
theorem extL {l b : Addr} {items new : Array Value} {n : Nat} {Q : Value -> Shared -> Prop} (e : s.heap.get? l = some { cls := .type "list", data := .seq items n }) (hb : s.heap.IsList b new \/ IsTup s.heap b new) (hz : items.size + new.size <= sizeLine)
  (h : Q .none { s with heap := s.heap.update l (Obj.mapSeq (· ++ new)) }) : wpAny (model prog w) A (call (.builtin "list.extend") [.ref l, .ref b]) Q E s := by
 have ht : s.TypeIs (.ref l) "list" := ⟨_, e, rfl⟩
 refine wpAny_call_entry F.slot_list_extend ht F.entry_list_extend ?_ (F.args_list_extend_2 _ _)
 unfold Builtin.«list.extend»
 refine wpAny_bind (wpAny_pure ?_)
 show wpAny (model prog w) _ (Builtin.List.listExtendWith (.ref l) (.ref b) .none) _ _ _
 unfold Builtin.List.listExtendWith
 obtain ⟨ob, eb, T, hT, n2, hd⟩ : ∃ ob, s.heap.get? b = some ob /\ ∃ T : String, (ob.cls = .type T /\ (T = "list" \/ T = "tuple")) /\ ∃ n2, ob.data = .seq new n2 := by
  rcases hb with ⟨o, a1, a2, a3, a4⟩ | ⟨o, a1, a2, a3, a4⟩
  ·exact ⟨o, a1, "list", ⟨a2, .inl rfl⟩, a3, a4⟩
  ·exact ⟨o, a1, "tuple", ⟨a2, .inr rfl⟩, a3, a4⟩
 refine wpAny_bind (wpAny_typeOf (T := T) ⟨ob, eb, hT.1⟩ ?_)
 have c : (Builtin.List.listSameRef (.ref l) (.ref b) || Value.type T == .type "list" || Value.type T == .type "tuple") = true := by
  rcases hT.2 with z | z <;> subst z
  ·rw [show (Value.type "list" == Value.type "list") = true by decide, Bool.or_true, Bool.true_or]
  ·rw [show (Value.type "tuple" == Value.type "tuple") = true by decide, Bool.or_true]
 rw [if_pos c]
 refine wpAny_bind (listItems_at eb hd (wpAny_bind (listItems_at e rfl ?_)))
 rw [if_neg (by rw [q6W hz, Bool.and_false]; exact Bool.false_ne_true)]
 refine wpAny_bind (listUpdate_at e rfl ?_ (by omega) (by show (items ++ new).size <= _; rw [Array.size_append]; omega))
 exact wpAny_pure ⟨_, rfl, h⟩
end
section
variable {X : Cx} {pos : Pos}
noncomputable def z5x (K : PySem.W.Frag) : V -> List V -> Hp -> VK -> Prop := λ x vs H Q => ∃ l b xs zs, x = .ref l /\ vs = [.ref b] /\ H l = some (.lst xs) /\ (SqL K H b zs \/ SqT K H b zs) /\ xs.length + zs.length <= sizeLine /\ Q .non (upd H l (.lst (xs ++ zs)))
theorem z3p : MtM X "list.extend" (z5x X.K) := by
 intro pins s σ H x vs v us Q I rx rv h
 obtain ⟨l, b, xs, zs, rfl, rfl, hH, hB, hz, q⟩ := h
 cases rx
 obtain ⟨u, rfl, ru⟩ := rv.one
 cases ru
 obtain ⟨z, its, n, r, hl, e⟩ := I.lstM hH
 obtain ⟨its2, r2, ob⟩ : ∃ its2 : List Value, Vals zs its2 /\ (s.heap.IsList b its2.toArray \/ IsTup s.heap b its2.toArray) := by
  rcases hB with hB | hB
  ·obtain ⟨its2, r2, pl, _⟩ := I.list hB
   exact ⟨its2, r2, .inl pl.isList⟩
  ·obtain ⟨its2, r2, pl, _⟩ := I.tuple hB
   exact ⟨its2, r2, .inr pl⟩
 have e2 := r2.length
 refine extL e ob (by rw [List.size_toArray, List.size_toArray]; omega) ?_
 refine ⟨.non, _, I.lset (its' := its ++ its2) (t' := s.toks) hH e (by simp) (r.append r2) ?_, rfl, q⟩
 rw [List.length_append]
 omega
theorem z0d : ∀ {ns : List Int} {us : List Value}, Vals (ns.map V.int) us -> IntsAre us ns
 | [], us, h => by cases h; exact .nil
 | n :: ns, us, h => by
  cases h with
  | cons r t =>
   obtain ⟨tk, rfl⟩ := r
   exact .cons n tk (z0d t)
theorem q7K (hc : X.calm = true) : q1J X (.builtin "min") (λ xs H Q => ∃ (a : Addr) (ns : List Int), xs = [.ref a] /\ SqL X.K H a (ns.map V.int) /\ ns ≠ [] /\ ∀ M, M ∈ ns -> (∀ x ∈ ns, M <= x) -> Q (.int M) H) := by
 intro pins s σ H xs us Q I r h
 obtain ⟨a, ns, rfl, hq, hz, q⟩ := h
 obtain ⟨u, rfl, r1⟩ := q4A r
 cases r1
 obtain ⟨its, rv, pl, _⟩ := I.list hq
 exact minL (I.ok.hd hc) pl.isList (z0d rv) hz λ h' M t tk k m1 m2 => ⟨.int M, H, I.kept k, ⟨t, rfl⟩, q M m1 m2⟩
end
end L2
end
section
namespace L2
open PySem PySem.Spec PySem.Calls PyProof.Rows PySem.W
section
variable {prog : Program} {w : World} {A : Around} {E : Value -> Shared -> Prop} {s : Shared}
theorem q5x {t : Addr} {xs : Array (Int × Tok)} {Q : Value -> Shared -> Prop} (hh : A.handled = none) (ht : s.heap.IsTuple t (intItems xs)) (hne : 0 < xs.size)
  (h : ∀ v h' tk, (intItems xs)[argBest (λ i j => decide (numAt xs i < numAt xs j)) (xs.size - 1)]? = some v -> (∀ b o, s.heap.get? b = some o -> h'.get? b = some o) -> Q v { s with heap := h', toks := tk }) :
  wpAny (model prog w) A (call (.builtin "min") [.ref t]) Q E s := by
 obtain ⟨o, ho, hc, n, hd⟩ := id ht
 have hlt : t < s.heap.objs.size := Heap.lt_size ho
 refine call_min_walk (wpAny_pyIter_tuple ht ?_)
 refine ⟨_, _, _, _, _, _, _, rfl, Walks.tuple (A := A.in1) hh _ t (Nat.ne_of_lt hlt) (intItems xs), ⟨⟨_, Heap.get?_push_size _ rfl, rfl, rfl⟩, ht.push _⟩, λ b hb => ?_, by simpa [intItems] using hne, CmpOf.ints_lt (numAt xs) (λ _ _ => intItems_at), λ v h' tk hP hk => ?_⟩
 ·show b < (s.heap.push _).objs.size
  rw [Heap.size_push]
  rcases List.mem_cons.mp hb with rfl | hb
  ·exact Nat.lt_succ_self _
  ·rcases List.mem_cons.mp hb with rfl | hb
   ·exact Nat.lt_succ_of_lt hlt
   ·cases hb
 ·refine h v h' tk (by simpa [intItems] using hP) λ b o e => hk b o (λ hm => ?_) (Heap.get?_push_of_some _ e)
  rcases List.mem_cons.mp hm with e1 | hm
  ·exact absurd (e1 ▸ Heap.lt_size e) (Nat.lt_irrefl _)
  ·cases hm
end
section
variable {prog : Program} {w : World} {A : Around} {E : Value -> Shared -> Prop} {s : Shared}
end
end L2
end
section
namespace L2
open PySem PySem.Spec PyProof.Rows
section
variable {prog : Program} {w : World} {A : Around} {E : Value -> Shared -> Prop} {s : Shared}
theorem minT {l : Addr} {vs : List Value} {ns : List Int} {Q : Value -> Shared -> Prop} (hh : A.handled = none) (hl : s.heap.IsTuple l vs.toArray) (hi : IntsAre vs ns) (hz : ns ≠ [])
  (h : ∀ h' M (t : Tok) tk, (∀ b o, s.heap.get? b = some o -> h'.get? b = some o) -> M ∈ ns -> (∀ a ∈ ns, M <= a) -> Q (.int M t) { s with heap := h', toks := tk }) : wpAny (model prog w) A (call (.builtin "min") [.ref l]) Q E s := by
 obtain ⟨ys, e⟩ := hi.allInts.items
 have en : ns = ys.toList.map (·.1) := by rw [← hi.numsOf, ← nums_intItems, ← e]
 have zy : 0 < ys.size := by
  have q : 0 < ns.length := List.length_pos_iff.mpr hz
  rwa [en, List.length_map, Array.length_toList] at q
 rw [e] at hl
 refine q5x hh hl zy λ v h1 tk q k => ?_
 obtain ⟨t, ev⟩ := intItems_at q
 subst ev
 obtain ⟨g1, g2⟩ := argBest_lt (numAt ys) (ys.size - 1)
 refine h h1 _ t tk k ?_ λ a ha => ?_
 ·rw [en, numAt_eq]
  exact z4p (by rw [List.length_map, Array.length_toList]; omega)
 ·rw [en] at ha
  obtain ⟨j, hj, ej⟩ := mem_getD ha
  subst ej
  rw [List.length_map, Array.length_toList] at hj
  rw [← numAt_eq]
  exact g2 j (by omega)
end
section
variable {X : Cx}
theorem q8U (hc : X.calm = true) : q1J X (.builtin "min") (λ xs H Q => ∃ (a : Addr) (ns : List Int), xs = [.ref a] /\ SqT X.K H a (ns.map V.int) /\ ns ≠ [] /\ ∀ M, M ∈ ns -> (∀ x ∈ ns, M <= x) -> Q (.int M) H) := by
 intro pins s σ H xs us Q I r h
 obtain ⟨a, ns, rfl, hq, hz, q⟩ := h
 obtain ⟨u, rfl, r1⟩ := q4A r
 cases r1
 obtain ⟨its, rv, pl, _⟩ := I.tuple hq
 exact minT (I.ok.hd hc) pl (z0d rv) hz λ h' M t tk k m1 m2 => ⟨.int M, H, I.kept k, ⟨t, rfl⟩, q M m1 m2⟩
end
end L2
end
section
namespace L2
open PySem PySem.Spec PySem.Calls PyProof.Rows PySem.W
noncomputable def z2g (prog : Program) (w : World) (A : Around) (P : Nat -> Value -> Prop) (St : Nat -> Heap -> Prop) (bt : Nat -> Nat -> Bool) : Prop :=
 ∀ k i j vi vj (s : Shared) (Q : Value -> Shared -> Prop) (E : Value -> Shared -> Prop), St k s.heap -> P i vi -> P j vj -> Q (.bool (bt i j)) s -> wpAny (model prog w) A (richCompare .Lt vi vj) Q E s
section
variable {prog : Program} {w : World} {A : Around} {R : Result -> Shared -> Prop} {I : Addr} {fp wr : List Addr} {n : Nat} {P : Nat -> Value -> Prop} {St : Nat -> Heap -> Prop}
theorem q7M (W : Walks prog w A.in1 I fp wr n P St) (bt : Nat -> Nat -> Bool) (hcmp : z2g prog w A.in1 P St bt) (S : Addr) (hSf : S ∉ fp) :
  ∀ (k j : Nat) (s : Shared) (vb : Value) (c : Nat), n - (j + 1) = k -> j + 1 <= n -> St (j + 1) s.heap -> P (argBest bt j) vb ->
  s.heap.get? S = some { cls := .type "list", dict := none, data := .seq #[vb, vb] c, slots := #[] } ->
  (∀ v h' tk, P (argBest bt (n - 1)) v -> (∀ b o, b ∉ wr -> b ≠ S -> s.heap.get? b = some o -> h'.get? b = some o) -> R (.ok (.ret v)) { s with heap := h', toks := tk }) ->
  codeAny (model prog w) A (.builtin "min.loop" ⟨[.ref I, .none, .ref S], []⟩) R s := by
 have hSw : S ∉ wr := λ h => hSf (W.sub _ h)
 have hname : (toString "min" ++ toString ".loop" : String) = "min.loop" := by decide
 intro k
 induction k with
 | zero =>
  intro j s vb c hk hj hst hPb hS hR
  have hin : j + 1 = n := by omega
  refine codeAny_builtin F.entry_min_loop ?_
  rw [Around.under_plainId F.plain_min_loop _]
  show wpAny _ A.in1 (seqItems? (.ref S) >>= _) _ _ s
  refine wpAny_bind (wpAny_seqItems hS rfl ?_)
  show wpAny _ A.in1 (tryCatch (pyNext (.ref I)) _ >>= _) _ _ s
  refine wpAny_bind (wpAny_tryCatch (W.done s _ _ (hin ▸ hst) λ h' tk hk' => ?_))
  have hS' := hk' S _ hSw hS
  show wpAny _ A.in1 (updateSeq S (λ _ => #[]) >>= _) _ _ _
  refine wpAny_bind ?_
  refine wpAny_updateSeq hS' rfl (wpAny_bind (wpAny_letGo (wpAny_pure ?_)))
  exact hR vb _ tk (by rw [← hin]; exact hPb) λ b o hbw hbS e => (Heap.get?_update_other _ _ (Ne.symm hbS)).trans (hk' b o hbw e)
 | succ k ih =>
  intro j s vb c hk hj hst hPb hS hR
  have hlt : j + 1 < n := by omega
  refine codeAny_builtin F.entry_min_loop ?_
  rw [Around.under_plainId F.plain_min_loop _]
  show wpAny _ A.in1 (seqItems? (.ref S) >>= _) _ _ s
  refine wpAny_bind (wpAny_seqItems hS rfl ?_)
  show wpAny _ A.in1 (tryCatch (pyNext (.ref I)) _ >>= _) _ _ s
  refine wpAny_bind (wpAny_tryCatch (W.item (j + 1) s _ _ hlt hst λ v h' tk hP hst' hk' => ?_))
  have hS' := hk' S _ hSw hS
  show wpAny _ A.in1 (tryCatch (holding [v, v] (richCompare .Lt v vb >>= _)) _ >>= _) _ _ _
  refine wpAny_bind (wpAny_tryCatch (wpAny_holding (wpAny_bind (hcmp _ (j + 1) (argBest bt j) v vb _ _ _ hst' hP hPb ?_))))
  refine wpAny_bind (wpAny_holding (wpAny_truthy_bool ?_))
  refine wpAny_bind (wpAny_letGo (wpAny_pure ?_))
  cases hb : bt (j + 1) (argBest bt j) with
  | true =>
   simp only [if_true]
   refine wpAny_bind ?_
   refine wpAny_updateSeq hS' rfl (wpAny_bind (wpAny_letGo ?_))
   rw [hname]
   refine wpAny_pure ⟨plainId_quiet F.plain_min_loop _, ih (j + 1) _ v _ (by omega) hlt (W.frame _ _ _ hst' λ b hbf o e => ?_) (by simp only [argBest, hb, if_true]; exact hP) (Heap.get?_update_self _ hS' rfl)
    λ v' h'' tk'' hP' hk'' => ?_⟩
   ·exact (Heap.get?_update_other _ _ (λ h : S = b => hSf (by rw [h]; exact hbf))).trans e
   ·exact hR v' h'' tk'' hP' λ b o hbw hbS e => hk'' b o hbw hbS ((Heap.get?_update_other _ _ (Ne.symm hbS)).trans (hk' b o hbw e))
  | false =>
   simp only [Bool.false_eq_true, if_false]
   refine wpAny_bind (wpAny_letGo ?_)
   rw [hname]
   refine wpAny_pure ⟨plainId_quiet F.plain_min_loop _, ih (j + 1) _ vb c (by omega) hlt hst' (by simp only [argBest, hb, Bool.false_eq_true, if_false]; exact hPb) hS' λ v' h'' tk'' hP' hk'' => ?_⟩
   exact hR v' h'' tk'' hP' λ b o hbw hbS e => hk'' b o hbw hbS (hk' b o hbw e)
theorem q9c (W : Walks prog w A.in1 I fp wr n P St) (bt : Nat -> Nat -> Bool) (hcmp : z2g prog w A.in1 P St bt) (S : Addr) (hSf : S ∉ fp) (hn : 0 < n) {s : Shared} {c : Nat} (hst : St 0 s.heap)
  (hS : s.heap.get? S = some { cls := .type "list", dict := none, data := .seq #[] c, slots := #[] })
  (hR : ∀ v h' tk, P (argBest bt (n - 1)) v -> (∀ b o, b ∉ wr -> b ≠ S -> s.heap.get? b = some o -> h'.get? b = some o) -> R (.ok (.ret v)) { s with heap := h', toks := tk }) :
  codeAny (model prog w) A (.builtin "min.loop" ⟨[.ref I, .none, .ref S], []⟩) R s := by
 have hSw : S ∉ wr := λ h => hSf (W.sub _ h)
 have hname : (toString "min" ++ toString ".loop" : String) = "min.loop" := by decide
 refine codeAny_builtin F.entry_min_loop ?_
 rw [Around.under_plainId F.plain_min_loop _]
 show wpAny _ A.in1 (seqItems? (.ref S) >>= _) _ _ s
 refine wpAny_bind (wpAny_seqItems hS rfl ?_)
 show wpAny _ A.in1 (tryCatch (pyNext (.ref I)) _ >>= _) _ _ s
 refine wpAny_bind (wpAny_tryCatch (W.item 0 s _ _ hn hst λ v h' tk hP hst' hk' => ?_))
 have hS' := hk' S _ hSw hS
 show wpAny _ A.in1 (updateSeq S (λ _ => #[v, v]) >>= _) _ _ _
 refine wpAny_bind ?_
 refine wpAny_updateSeq hS' rfl ?_
 rw [hname]
 refine wpAny_pure ⟨plainId_quiet F.plain_min_loop _, q7M W bt hcmp S hSf _ 0 _ v _ rfl hn (W.frame _ _ _ hst' λ b hbf o e => ?_) hP (Heap.get?_update_self _ hS' rfl) λ v' h'' tk'' hP' hk'' => ?_⟩
 ·exact (Heap.get?_update_other _ _ (λ h : S = b => hSf (by rw [h]; exact hbf))).trans e
 ·exact hR v' h'' tk'' hP' λ b o hbw hbS e => hk'' b o hbw hbS ((Heap.get?_update_other _ _ (Ne.symm hbS)).trans (hk' b o hbw e))
end
section
variable {prog : Program} {w : World} {A : Around} {E : Value -> Shared -> Prop} {s : Shared}
theorem q7h {x : Value} {Q : Value -> Shared -> Prop}
  (h : wpAny (model prog w) A.in1 (pyIter x) (λ it s₂ => ∃ I fp wr n P St bt, it = .ref I /\ Walks prog w A.in1 I fp wr n P St /\ St 0 s₂.heap /\ (∀ b ∈ fp, b < s₂.heap.objs.size) /\ 0 < n /\ z2g prog w A.in1 P St bt /\
   ∀ v h' tk, P (argBest bt (n - 1)) v -> (∀ b o, b ∉ wr -> s₂.heap.get? b = some o -> h'.get? b = some o) -> Q v { s₂ with heap := h', toks := tk }) E s) :
  wpAny (model prog w) A (call (.builtin "min") [x]) Q E s := by
 have hname : (toString "min" ++ toString ".loop" : String) = "min.loop" := by decide
 refine call_function_tree F.kind_min F.plain_min F.entry_min (F.args_min1 _) ?_
 show wpAny _ A.in1 (Builtin.Builtins.bindParams "min" ["key", "default"] 0 ⟨[], []⟩ >>= _) _ _ s
 refine wpAny_bind (wpAny_of_eq (show Builtin.Builtins.bindParams "min" ["key", "default"] 0 ⟨[], []⟩ = pure [none, none] from rfl) ?_)
 refine wpAny_bind (wpAny_pure ?_)
 refine wpAny_bind (wpAny_mono h (λ it s₂ h₂ => ?_) λ _ _ e => e)
 obtain ⟨I, fp, wr, n, P, St, bt, rfl, W, hst, hfp, hn, hcmp, hQ⟩ := h₂
 refine wpAny_bind (wpAny_newObj_type ?_)
 have hSf : s₂.heap.objs.size ∉ fp := λ hm => Nat.lt_irrefl _ (hfp _ hm)
 rw [hname]
 refine wpAny_pure ⟨plainId_quiet F.plain_min_loop _, q9c W bt hcmp s₂.heap.objs.size hSf hn (W.frame _ _ _ hst λ b _ o e => Heap.get?_push_of_some _ e) (Heap.get?_push_size _ rfl) λ v h' tk hP hk => ?_⟩
 exact hQ v h' tk hP λ b o hbw e => hk b o hbw (Nat.ne_of_lt (Heap.lt_size e)) (Heap.get?_push_of_some _ e)
theorem Walks.know {I : Addr} {fp wr ts : List Addr} {n : Nat} {P : Nat -> Value -> Prop} {St : Nat -> Heap -> Prop} (W : Walks prog w A I fp wr n P St) (K : Heap -> Prop) (hK : ∀ h h', K h -> (∀ b ∈ ts, ∀ o, h.get? b = some o -> h'.get? b = some o) -> K h') (hd : ∀ t ∈ ts, t ∉ wr) :
  Walks prog w A I (fp ++ ts) wr n P (λ i h => St i h /\ K h) where
 sub := λ b hb => List.mem_append_left _ (W.sub b hb)
 frame := λ i h h' st k => ⟨W.frame i h h' st.1 λ b hb => k b (List.mem_append_left _ hb), hK h h' st.2 λ b hb => k b (List.mem_append_right _ hb)⟩
 item := λ i s Q E hi st hQ => W.item i s Q E hi st.1 λ v h' tk hP hst hk => hQ v h' tk hP ⟨hst, hK _ _ st.2 λ b hb o e => hk b o (hd b hb) e⟩ hk
 done := λ s Q E st hQ => W.done s Q E st.1 hQ
 self := λ i s Q E st hQ => W.self i s Q E st.1 hQ
noncomputable def TrAt (h : Heap) (v : Value) (p : Int × Int × Int) : Prop := ∃ a o n t1 t2 t3, v = .ref a /\ h.get? a = some o /\ o.cls = .type "tuple" /\ o.data = .seq #[.int p.1 t1, .int p.2.1 t2, .int p.2.2 t3] n
theorem q8Q (hA : A.units < cLine) {u v : Value} {p q : Int × Int × Int} {Q : Value -> Shared -> Prop} (hu : TrAt s.heap u p) (hv : TrAt s.heap v q) (h : Q (.bool (ltT p q)) s) : wpAny (model prog w) A (richCompare .Lt u v) Q E s := by
 obtain ⟨a, oa, na, t1, t2, t3, rfl, ea, ca, da⟩ := hu
 obtain ⟨b, ob, nb, u1, u2, u3, rfl, eb, cb, db⟩ := hv
 have Ta : s.TypeIs (.ref a) "tuple" := ⟨oa, ea, ca⟩
 have Tb : s.TypeIs (.ref b) "tuple" := ⟨ob, eb, cb⟩
 refine wpAny_richCompare_same_room (op := .Lt) Ta Tb F.slot_tuple_lt (wpAny_call_entry F.slot_tuple_lt Ta F.entry_tuple_lt ?_ (F.args_tuple_lt_2 _ _)) hA
 show wpAny _ _ (isInstance (.ref b) (.type "tuple") >>= _) _ _ s
 refine wpAny_bind (wpAny_isInstance Tb isSubtype_tuple_tuple ?_)
 simp only [Bool.not_true, Bool.false_eq_true, if_false]
 refine wpAny_bind (wpAny_tupleItemsOf ea da ?_)
 refine wpAny_bind (wpAny_tupleItemsOf eb db ?_)
 refine wpAny_bind ?_
 show wpAny _ _ (forIn [(Value.int p.1 t1, Value.int q.1 u1), (Value.int p.2.1 t2, Value.int q.2.1 u2), (Value.int p.2.2 t3, Value.int q.2.2 u3)] _ _) _ _ s
 unfold ltT at h
 rw [List.forIn_cons]
 refine wpAny_bind (wpAny_bind (wpAny_eqBool_int ?_))
 by_cases h1 : p.1 = q.1
 ·rw [show (p.1 == q.1) = true from beq_iff_eq.mpr h1]
  rw [show (p.1 == q.1) = true from beq_iff_eq.mpr h1, decide_eq_false (show ¬ p.1 < q.1 by omega), Bool.false_or, Bool.true_and] at h
  simp only [Bool.not_true, Bool.false_eq_true, if_false]
  refine wpAny_pure ?_
  dsimp only
  rw [List.forIn_cons]
  refine wpAny_bind (wpAny_bind (wpAny_eqBool_int ?_))
  by_cases h2 : p.2.1 = q.2.1
  ·rw [show (p.2.1 == q.2.1) = true from beq_iff_eq.mpr h2]
   rw [show (p.2.1 == q.2.1) = true from beq_iff_eq.mpr h2, decide_eq_false (show ¬ p.2.1 < q.2.1 by omega), Bool.false_or, Bool.true_and] at h
   simp only [Bool.not_true, Bool.false_eq_true, if_false]
   refine wpAny_pure ?_
   dsimp only
   rw [List.forIn_cons]
   refine wpAny_bind (wpAny_bind (wpAny_eqBool_int ?_))
   by_cases h3 : p.2.2 = q.2.2
   ·rw [show (p.2.2 == q.2.2) = true from beq_iff_eq.mpr h3]
    rw [decide_eq_false (show ¬ p.2.2 < q.2.2 by omega)] at h
    simp only [Bool.not_true, Bool.false_eq_true, if_false]
    refine wpAny_pure ?_
    dsimp only
    rw [List.forIn_nil]
    refine wpAny_pure ?_
    dsimp only
    refine wpAny_pure ⟨_, rfl, (λ e => nomatch e), ?_⟩
    exact h
   ·rw [show (p.2.2 == q.2.2) = false from beq_eq_false_iff_ne.mpr h3]
    simp only [Bool.not_false, if_true]
    refine wpAny_bind (wpAny_rule (wpAny_bind (show wpAny (model prog w) _ (compareOp .Lt _ _) _ _ _ from wpAny_lt_int (wpAny_bind (wpAny_pure (wpAny_pure ?_))))))
    dsimp only
    refine wpAny_pure ?_
    dsimp only
    exact wpAny_pure ⟨_, rfl, (λ e => nomatch e), h⟩
  ·rw [show (p.2.1 == q.2.1) = false from beq_eq_false_iff_ne.mpr h2]
   rw [show (p.2.1 == q.2.1) = false from beq_eq_false_iff_ne.mpr h2, Bool.false_and, Bool.or_false] at h
   simp only [Bool.not_false, if_true]
   refine wpAny_bind (wpAny_rule (wpAny_bind (show wpAny (model prog w) _ (compareOp .Lt _ _) _ _ _ from wpAny_lt_int (wpAny_bind (wpAny_pure (wpAny_pure ?_))))))
   dsimp only
   refine wpAny_pure ?_
   dsimp only
   exact wpAny_pure ⟨_, rfl, (λ e => nomatch e), h⟩
 ·rw [show (p.1 == q.1) = false from beq_eq_false_iff_ne.mpr h1]
  rw [show (p.1 == q.1) = false from beq_eq_false_iff_ne.mpr h1, Bool.false_and, Bool.or_false] at h
  simp only [Bool.not_false, if_true]
  refine wpAny_bind (wpAny_rule (wpAny_bind (show wpAny (model prog w) _ (compareOp .Lt _ _) _ _ _ from wpAny_lt_int (wpAny_bind (wpAny_pure (wpAny_pure ?_))))))
  dsimp only
  refine wpAny_pure ?_
  dsimp only
  exact wpAny_pure ⟨_, rfl, (λ e => nomatch e), h⟩
noncomputable def q3j (h : Heap) : List Value -> List (Int × Int × Int) -> Prop
 | [], [] => True
 | v :: vs, p :: ps => TrAt h v p /\ q3j h vs ps
 | _, _ => False
noncomputable def q5J : List Value -> List Addr
 | [] => []
 | .ref a :: vs => a :: q5J vs
 | _ :: vs => q5J vs
theorem q3j.len {h : Heap} : ∀ {vs : List Value} {ps : List (Int × Int × Int)}, q3j h vs ps -> vs.length = ps.length
 | [], [], _ => rfl
 | _ :: _, _ :: _, x => by rw [List.length_cons, List.length_cons, x.2.len]
 | [], _ :: _, x => x.elim
 | _ :: _, [], x => x.elim
theorem q3j.keep {h h' : Heap} : ∀ {vs : List Value} {ps : List (Int × Int × Int)}, q3j h vs ps -> (∀ b ∈ q5J vs, ∀ o, h.get? b = some o -> h'.get? b = some o) -> q3j h' vs ps
 | [], [], _, _ => trivial
 | _ :: _, _ :: _, x, k => by
  obtain ⟨⟨a, o, n, t1, t2, t3, rfl, e, c, d⟩, y⟩ := x
  exact ⟨⟨a, o, n, t1, t2, t3, rfl, k a (List.mem_cons_self ..) o e, c, d⟩, y.keep λ b hb => k b (List.mem_cons_of_mem _ hb)⟩
 | [], _ :: _, x, _ => x.elim
 | _ :: _, [], x, _ => x.elim
theorem q3j.get {h : Heap} : ∀ {vs : List Value} {ps : List (Int × Int × Int)} {i : Nat} {v : Value}, q3j h vs ps -> vs[i]? = some v -> TrAt h v (ps.getD i (0, 0, 0))
 | [], [], _, _, _, e => by simp at e
 | _ :: _, _ :: _, 0, _, x, e => by
  have : _ = _ := Option.some.inj e
  subst this
  exact x.1
 | _ :: _, _ :: _, i + 1, _, x, e => x.2.get (by simpa using e)
 | [], _ :: _, _, _, x, _ => x.elim
 | _ :: _, [], _, _, x, _ => x.elim
theorem q3j.lt {h : Heap} : ∀ {vs : List Value} {ps : List (Int × Int × Int)}, q3j h vs ps -> ∀ b ∈ q5J vs, b < h.objs.size
 | [], [], _, _, hb => nomatch hb
 | _ :: _, _ :: _, x, b, hb => by
  obtain ⟨⟨a, o, n, t1, t2, t3, rfl, e, c, d⟩, y⟩ := x
  rcases List.mem_cons.mp hb with rfl | hb
  ·exact Heap.lt_size e
  ·exact y.lt b hb
 | [], _ :: _, x, _, _ => x.elim
 | _ :: _, [], x, _, _ => x.elim
theorem q4j (x : Int × Int × Int) : ∀ (m : Int × Int × Int) (l : List (Int × Int × Int)), q3k m (l ++ [x]) = if ltT x (q3k m l) then x else q3k m l
 | m, [] => rfl
 | m, y :: l => q4j x (if ltT y m then y else m) l
theorem q6V (p : Int × Int × Int) (r : List (Int × Int × Int)) : ∀ k, k <= r.length -> (p :: r).getD (argBest (λ i j => ltT ((p :: r).getD i (0, 0, 0)) ((p :: r).getD j (0, 0, 0))) k) (0, 0, 0) = q3k p (r.take k)
 | 0, _ => by rw [List.take_zero]; rfl
 | k + 1, h => by
  have q := q6V p r k (by omega)
  have e : r.take (k + 1) = r.take k ++ [r[k]] := by rw [List.take_append_getElem]
  have e2 : (p :: r).getD (k + 1) (0, 0, 0) = r[k] := by
   rw [List.getD_eq_getElem?_getD, List.getElem?_cons_succ, List.getElem?_eq_getElem (by omega)]
   rfl
  rw [e, q4j]
  unfold argBest
  rw [q, e2]
  cases ltT r[k] (q3k p (r.take k)) with
  | true => rw [if_pos rfl, if_pos rfl]; exact e2
  | false => rw [if_neg Bool.false_ne_true, if_neg Bool.false_ne_true]; exact q
theorem q5U {l : Addr} {vs : List Value} {p : Int × Int × Int} {r : List (Int × Int × Int)} {Q : Value -> Shared -> Prop} (hh : A.handled = none) (hA : A.units + 1 < cLine) (hl : s.heap.IsList l vs.toArray) (hp : q3j s.heap vs (p :: r))
  (h : ∀ i v h' tk, vs[i]? = some v -> (p :: r).getD i (0, 0, 0) = q3k p r -> i < (p :: r).length -> (∀ b o, s.heap.get? b = some o -> h'.get? b = some o) -> Q v { s with heap := h', toks := tk }) :
  wpAny (model prog w) A (call (.builtin "min") [.ref l]) Q E s := by
 have hlt : l < s.heap.objs.size := by obtain ⟨_, e, _⟩ := hl; exact Heap.lt_size e
 have hz := hp.len
 rw [List.length_cons] at hz
 refine q7h (wpAny_pyIter_list hl ?_)
 refine ⟨_, _, _, _, _, _, λ i j => ltT ((p :: r).getD i (0, 0, 0)) ((p :: r).getD j (0, 0, 0)), rfl, Walks.know (ts := q5J vs) (Walks.list (A := A.in1) hh s.heap.objs.size l (Nat.ne_of_lt hlt) vs.toArray) (λ h => q3j h vs (p :: r)) (λ h h' x k => x.keep k) (λ t ht z => ?_),
  ⟨⟨⟨_, Heap.get?_push_size _ rfl, rfl, rfl⟩, hl.push _⟩, hp.keep λ b hb o e => Heap.get?_push_of_some _ e⟩, λ b hb => ?_, by simp; omega, λ k i j vi vj s' Q' E' st hi hj q => ?_, λ v h' tk hP hk => ?_⟩
 ·have := hp.lt t ht
  rw [List.mem_singleton.mp z] at this
  exact Nat.lt_irrefl _ this
 ·show b < (s.heap.push _).objs.size
  rw [Heap.size_push]
  rcases List.mem_append.mp hb with hb | hb
  ·rcases List.mem_cons.mp hb with rfl | hb
   ·exact Nat.lt_succ_self _
   ·rcases List.mem_cons.mp hb with rfl | hb
    ·exact Nat.lt_succ_of_lt hlt
    ·cases hb
  ·exact Nat.lt_succ_of_lt (hp.lt b hb)
 ·have hi' : vs[i]? = some vi := by simpa using hi
  have hj' : vs[j]? = some vj := by simpa using hj
  exact q8Q hA (st.2.get hi') (st.2.get hj') q
 ·have hsz : vs.toArray.size - 1 = r.length := by rw [List.size_toArray]; omega
  have hP' : vs[argBest (λ i j => ltT ((p :: r).getD i (0, 0, 0)) ((p :: r).getD j (0, 0, 0))) (vs.toArray.size - 1)]? = some v := by simpa using hP
  rw [hsz] at hP'
  have hb := q6V p r r.length (Nat.le_refl _)
  rw [List.take_length] at hb
  refine h _ v h' tk hP' hb ?_ λ b o e => hk b o (λ hm => ?_) (Heap.get?_push_of_some _ e)
  ·have := (List.getElem?_eq_some_iff.mp hP').1
   rw [List.length_cons]; omega
  ·rw [List.mem_singleton.mp hm] at e
   exact absurd (Heap.lt_size e) (Nat.lt_irrefl _)
end
end L2
end
section
namespace L2
open PySem PySem.Spec PyProof.Rows
variable {X : Cx}
noncomputable def TrsV (K : PySem.W.Frag) (H : Hp) : List V -> List (Int × Int × Int) -> Prop
 | [], [] => True
 | v :: vs, p :: ps => (∃ a, v = .ref a /\ SqT K H a [.int p.1, .int p.2.1, .int p.2.2]) /\ TrsV K H vs ps
 | _, _ => False
theorem z5O {x y z : V} {us : List Value} (h : Vals [x, y, z] us) : ∃ u v w, us = [u, v, w] /\ RelV x u /\ RelV y v /\ RelV z w := by
 cases h with
 | cons r t =>
  obtain ⟨v, w, rfl, r2, r3⟩ := q7v t
  exact ⟨_, v, w, rfl, r, r2, r3⟩
theorem TrsV.at {pins : List (Addr × Obj)} {σ : St} {H : Hp} {s : Shared} (I : Inv X pins σ H s) : ∀ {vs : List V} {ps : List (Int × Int × Int)} {its : List Value}, TrsV X.K H vs ps -> Vals vs its -> q3j s.heap its ps
 | [], [], its, _, r => by cases r; exact trivial
 | _ :: _, p :: ps, its, x, r => by
  obtain ⟨⟨a, rfl, h1⟩, h2⟩ := x
  cases its with
  | nil => cases r
  | cons u us =>
   cases r
   rename_i r1 r2
   cases r1
   obtain ⟨its2, rv, ⟨o, e1, e2, n, e3⟩, _⟩ := I.tuple h1
   obtain ⟨u1, u2, u3, rfl, ⟨t, rfl⟩, ⟨t', rfl⟩, ⟨t2, rfl⟩⟩ := z5O rv
   exact ⟨⟨a, o, n, t, t', t2, rfl, e1, e2, e3⟩, h2.at I r2⟩
 | [], _ :: _, _, x, _ => x.elim
 | _ :: _, [], _, x, _ => x.elim
theorem q8c : ∀ {xs : List V} {us : List Value} {i : Nat} {u : Value}, Vals xs us -> us[i]? = some u -> ∃ x, xs[i]? = some x /\ RelV x u
 | _, _, 0, _, .cons r _, e => by cases e; exact ⟨_, rfl, r⟩
 | _, _, i + 1, _, .cons _ t, e => by
  obtain ⟨x, h1, h2⟩ := q8c (i := i) t (by simpa using e)
  exact ⟨x, by simpa using h1, h2⟩
 | _, _, _, _, .nil, e => by simp at e
theorem q7W (hc : X.calm = true) (hu : X.A.units + 1 < cLine) : q1J X (.builtin "min") (λ xs H Q => ∃ (a : Addr) (vs : List V) (p : Int × Int × Int) (r : List (Int × Int × Int)), xs = [.ref a] /\ SqL X.K H a vs /\ TrsV X.K H vs (p :: r) /\
  ∀ i v, vs[i]? = some v -> (p :: r).getD i (0, 0, 0) = q3k p r -> i < (p :: r).length -> Q v H) := by
 intro pins s σ H xs us Q I r h
 obtain ⟨a, vs, p, ps, rfl, hq, hp, q⟩ := h
 obtain ⟨u, rfl, r1⟩ := q4A r
 cases r1
 obtain ⟨its, rv, pl, _⟩ := I.list hq
 refine q5U (I.ok.hd hc) hu pl.isList (hp.at I rv) λ i v h' tk e1 e2 e3 k => ?_
 obtain ⟨x, f1, f2⟩ := q8c rv e1
 exact ⟨x, H, I.kept k, f2, q i x f1 e2 e3⟩
end L2
end
section
namespace L2
open PySem PySem.Spec PyProof.Rows
section
variable {prog : Program} {w : World} {A : Around} {E : Value -> Shared -> Prop} {s : Shared}
theorem sumL {l : Addr} {vs : List Value} {ns : List Int} {Q : Value -> Shared -> Prop} (hh : A.handled = none) (hl : s.heap.IsList l vs.toArray) (hi : IntsAre vs ns)
  (h : ∀ h' tk t, (∀ b o, s.heap.get? b = some o -> h'.get? b = some o) -> Q (.int ns.sum t) { s with heap := h', toks := tk }) : wpAny (model prog w) A (call (.builtin "sum") [.ref l]) Q E s := by
 obtain ⟨ys, e⟩ := hi.allInts.items
 have en : ns = ys.toList.map (·.1) := by rw [← hi.numsOf, ← nums_intItems, ← e]
 rw [e] at hl
 refine sum_intListG hh hl λ h' tk t' hk => ?_
 have := h h' tk t' hk
 rw [preSum_eq, List.take_of_length_le (by simp)]
 rw [en] at this
 exact this
end
section
variable {X : Cx}
theorem q8O (hc : X.calm = true) : q1J X (.builtin "sum") (λ xs H Q => ∃ (a : Addr) (ns : List Int), xs = [.ref a] /\ SqL X.K H a (ns.map V.int) /\ Q (.int ns.sum) H) := by
 intro pins s σ H xs us Q I r h
 obtain ⟨a, ns, rfl, hq, q⟩ := h
 obtain ⟨u, rfl, r1⟩ := q4A r
 cases r1
 obtain ⟨its, rv, pl, _⟩ := I.list hq
 exact sumL (I.ok.hd hc) pl.isList (z0d rv) λ h' tk t k => ⟨.int _, H, I.kept k, ⟨t, rfl⟩, q⟩
end
end L2
end
section
namespace L2
open PySem
structure Sg where
 N : List Str
 sc : List (Str × NameKind)
 fn : List Str
 bl : List Str
 cl : List Str
 top : Bool
 lp : Bool
noncomputable def q9j : List Str := ["ValueError"]
noncomputable def q0P : Expr -> Option Str | .Name x _ => some x | _ => none
noncomputable def q2J : Expr -> Option Const | .Constant c _ _ => some c | _ => none
noncomputable def z0W : Expr -> Option (Expr × Operator × Expr) | .BinOp a o b _ => some (a, o, b) | _ => none
noncomputable def asUn : Expr -> Option (UnaryOp × Expr) | .UnaryOp o a _ => some (o, a) | _ => none
noncomputable def q9I : Expr -> Option (Expr × List CmpOp × List Expr) | .Compare a o b _ => some (a, o, b) | _ => none
noncomputable def q6v : Expr -> Option (BoolOp × List Expr) | .BoolOp o es _ => some (o, es) | _ => none
noncomputable def asIf : Expr -> Option (Expr × Expr × Expr) | .IfExp c a b _ => some (c, a, b) | _ => none
noncomputable def q8k : Expr -> Option (List Expr) | .List es _ => some es | _ => none
noncomputable def q2K : Expr -> Option (List Expr) | .Tuple es _ _ => some es | _ => none
noncomputable def q6d : Expr -> Option (Expr × Expr) | .Subscript a b _ => some (a, b) | _ => none
noncomputable def q3O : Expr -> Option (Option Expr × Option Expr × Option Expr) | .Slice a b c _ => some (a, b, c) | _ => none
noncomputable def q2n : Expr -> Option (Expr × List Expr × List Keyword × Pos) | .Call f as ks p => some (f, as, ks, p) | _ => none
noncomputable def q6u : Expr -> Option (Expr × Str × Pos) | .Attribute a n p => some (a, n, p) | _ => none
noncomputable def q9g : Expr -> Option (Expr × List Comprehension × Scope) | .ListComp e gs sc _ => some (e, gs, sc) | _ => none
noncomputable def q0s : Expr -> Bool | .Starred _ _ => true | _ => false
noncomputable def q4S : Expr -> Bool | .Slice _ _ _ _ => true | _ => false
noncomputable def q2B : Expr -> Bool | .Set _ _ _ => true | _ => false
noncomputable def q5t : Expr -> Bool | .ListComp _ _ _ _ => true | .SetComp _ _ _ _ => true | .DictComp _ _ _ _ _ => true | _ => false
theorem q0p {e : Expr} {x : Str} (h : q0P e = some x) : ∃ p, e = .Name x p := by
 cases e <;> simp [q0P] at h; subst h; exact ⟨_, rfl⟩
theorem q4k {e : Expr} {x : Const} (h : q2J e = some x) : ∃ k p, e = .Constant x k p := by
 cases e <;> simp [q2J] at h; subst h; exact ⟨_, _, rfl⟩
theorem q6s {e a b : Expr} {o : Operator} (h : z0W e = some (a, o, b)) : ∃ p, e = .BinOp a o b p := by
 cases e <;> simp [z0W] at h; obtain ⟨rfl, rfl, rfl⟩ := h; exact ⟨_, rfl⟩
theorem q5a {e a : Expr} {o : UnaryOp} (h : asUn e = some (o, a)) : ∃ p, e = .UnaryOp o a p := by
 cases e <;> simp [asUn] at h; obtain ⟨rfl, rfl⟩ := h; exact ⟨_, rfl⟩
theorem q3C {e a : Expr} {os : List CmpOp} {bs : List Expr} (h : q9I e = some (a, os, bs)) : ∃ p, e = .Compare a os bs p := by
 cases e <;> simp [q9I] at h; obtain ⟨rfl, rfl, rfl⟩ := h; exact ⟨_, rfl⟩
theorem q2X {e : Expr} {o : BoolOp} {es : List Expr} (h : q6v e = some (o, es)) : ∃ p, e = .BoolOp o es p := by
 cases e <;> simp [q6v] at h; obtain ⟨rfl, rfl⟩ := h; exact ⟨_, rfl⟩
theorem q7H {e c a b : Expr} (h : asIf e = some (c, a, b)) : ∃ p, e = .IfExp c a b p := by
 cases e <;> simp [asIf] at h; obtain ⟨rfl, rfl, rfl⟩ := h; exact ⟨_, rfl⟩
theorem q5v {e : Expr} {es : List Expr} (h : q8k e = some es) : ∃ p, e = .List es p := by
 cases e <;> simp [q8k] at h; subst h; exact ⟨_, rfl⟩
theorem q2g {e : Expr} {es : List Expr} (h : q2K e = some es) : ∃ k p, e = .Tuple es k p := by
 cases e <;> simp [q2K] at h; subst h; exact ⟨_, _, rfl⟩
theorem q1A {e a b : Expr} (h : q6d e = some (a, b)) : ∃ p, e = .Subscript a b p := by
 cases e <;> simp [q6d] at h; obtain ⟨rfl, rfl⟩ := h; exact ⟨_, rfl⟩
theorem q3l {e : Expr} {a b c : Option Expr} (h : q3O e = some (a, b, c)) : ∃ p, e = .Slice a b c p := by
 cases e <;> simp [q3O] at h; obtain ⟨rfl, rfl, rfl⟩ := h; exact ⟨_, rfl⟩
theorem q0N {e f : Expr} {as : List Expr} {ks : List Keyword} {p : Pos} (h : q2n e = some (f, as, ks, p)) : e = .Call f as ks p := by
 cases e <;> simp [q2n] at h; obtain ⟨rfl, rfl, rfl, rfl⟩ := h; rfl
theorem q5q {e a : Expr} {n : Str} {p : Pos} (h : q6u e = some (a, n, p)) : e = .Attribute a n p := by
 cases e <;> simp [q6u] at h; obtain ⟨rfl, rfl, rfl⟩ := h; rfl
theorem q7E {e x : Expr} {gs : List Comprehension} {sc : Scope} (h : q9g e = some (x, gs, sc)) : ∃ p, e = .ListComp x gs sc p := by
 cases e <;> simp [q9g] at h; obtain ⟨rfl, rfl, rfl⟩ := h; exact ⟨_, rfl⟩
noncomputable def visB (sg : Sg) (x : Str) : Bool := sg.sc.lookup x == some .local || sg.sc.lookup x == some .cell || sg.sc.lookup x == some .free
noncomputable def gloB (sg : Sg) (x : Str) : Bool := sg.sc.lookup x == some .globalImplicit
noncomputable def locB (sg : Sg) (x : Str) : Bool := sg.sc.lookup x == some .local || sg.sc.lookup x == some .cell
noncomputable def q7d (sg : Sg) (i : Nat) (x : Str) : Bool := sg.N[i]? == some x && visB sg x && x != "__debug__" && x != "__classdict__"
noncomputable def bltB (sg : Sg) (x : Str) (f : Expr) : Bool := q0P f == some x && gloB sg x && sg.bl.contains x
noncomputable def z4g : Bi -> Str
 | .len => "len" | .abs => "abs" | .min => "min" | .max => "max" | .sum => "sum" | .any => "any" | .all => "all" | .sorted => "sorted" | .sset => "sorted" | .lset => "len"
 | .int => "int" | .list => "list" | .tuple => "tuple" | .str => "str" | .lrng => "list" | .lsti => "list"
structure CParts where
 elt : Expr
 tg : Expr
 it : Expr
 ifs : List Expr
 sc : Scope
noncomputable def q4i (e : Expr) : Option CParts := match q9g e with
 | some (elt, [⟨tg, it, ifs, a⟩], sc) => if a = 0 then some ⟨elt, tg, it, ifs, sc⟩ else none
 | _ => none
theorem q3J {e : Expr} {c : CParts} (h : q4i e = some c) : ∃ p, e = .ListComp c.elt [⟨c.tg, c.it, c.ifs, 0⟩] c.sc p := by
 unfold q4i at h
 split at h
 ·rename_i elt tg it ifs a sc q
  split at h
  ·rename_i ha
   cases h
   subst ha
   exact q7E q
  ·cases h
 ·cases h
noncomputable def q1x (sg : Sg) (tn : List Str) (fr : List (Option Nat)) : List Str := tn ++ (fr.drop tn.length).map λ o => match o with | some i => sg.N.getD i "" | none => ""
noncomputable def q9e : Tg -> Expr -> Option (List Str)
 | .one _, e => (q0P e).map λ x => [x]
 | .many is, e => match q2K e with
  | some es => if es.length = is.length then es.mapM q0P else none
  | none => none
noncomputable def tgOk (sg : Sg) : Tg -> Expr -> Bool
 | .one i, e => match q0P e with
  | some x => sg.N[i]? == some x && locB sg x
  | none => false
 | .many is, e => match q2K e with
  | some es => es.length == is.length && 2 <= es.length && (is.zip es).all λ p => match q0P p.2 with
   | some x => sg.N[p.1]? == some x && locB sg x
   | none => false
  | none => false
noncomputable def q4w : List Str -> Bool
 | [] => true
 | x :: r => !r.contains x && q4w r
noncomputable def q2O : Tg -> List Nat
 | .one i => [i]
 | .many is => is
noncomputable def q2N (sg : Sg) (N' : List Str) (fr : List (Option Nat)) (sc : Scope) (tg : Tg) : Bool := (q2O tg).all (λ i => fr[i]? == some none) &&
 sc.kind == .function && q4w N' && q4w (sc.names.map (·.1)) && fr.length == N'.length &&
 (fr.zip N').all (λ p => match p.1 with | some i => sg.N[i]? == some p.2 && sc.names.contains (p.2, .free) | none => true) &&
 sc.names.all λ y => if y.2 == .free then sg.sc.lookup y.1 == some .cell || sg.sc.lookup y.1 == some .free else true
noncomputable def q7I : ME -> Bool
 | .comp _ _ _ _ => true
 | .compi _ _ _ _ _ => true
 | _ => false
noncomputable def isZp : ME -> Bool
 | _ => false
mutual
noncomputable def corE (sg : Sg) (w : Bool) : ME -> Expr -> Bool
 | .var i, e => match q0P e with | some x => q7d sg i x | none => false
 | .int i, e => q2J e == some (.int i)
 | .bl i, e => q2J e == some (.bool i)
 | .str x, e => q2J e == some (.str x) && decide (x.length <= 1000)
 | .non, e => q2J e == some .none
 | .glb x, e => q0P e == some x && gloB sg x && x != "__debug__"
 | .bin op a b, e => match z0W e with | some (ea, o, eb) => o == op && corE sg false a ea && corE sg false b eb | none => false
 | .neg a, e => match asUn e with | some (o, ea) => o == .USub && corE sg false a ea | none => false
 | .not a, e => match asUn e with | some (o, ea) => o == .Not && corE sg false a ea | none => false
 | .cmp op a b, e => match q9I e with | some (ea, [o], [eb]) => o == op && corE sg false a ea && corE sg false b eb && !q2B eb | _ => false
 | .chain op op' a b c, e => match q9I e with | some (ea, [o, o'], [eb, ec]) => o == op && o' == op' && corE sg false a ea && corE sg false b eb && corE sg false c ec && !q2B ec | _ => false
 | .and ms, e => match q6v e with | some (o, es) => o == .And && q0R sg ms es | none => false
 | .or ms, e => match q6v e with | some (o, es) => o == .Or && q0R sg ms es | none => false
 | .ite c a b, e => match asIf e with | some (ec, ea, eb) => corE sg false c ec && corE sg false a ea && corE sg false b eb | none => false
 | .lst ms, e => match q8k e with | some es => q0R sg ms es | none => false
 | .tup ms, e => match q2K e with | some es => q0R sg ms es | none => false
 | .ix a b, e => match q6d e with | some (ea, eb) => corE sg false a ea && corE sg false b eb && !q4S eb | none => false
 | .sl a lo hi, e => match q6d e with
  | some (ea, es) => (match q3O es with | some (some el, some eh, none) => corE sg false a ea && corE sg false lo el && corE sg false hi eh | _ => false)
  | none => false
 | .slf a lo, e => match q6d e with
  | some (ea, es) => (match q3O es with | some (some el, none, none) => corE sg false a ea && corE sg false lo el | _ => false)
  | none => false
 | .slt a hi, e => match q6d e with
  | some (ea, es) => (match q3O es with | some (none, some eh, none) => corE sg false a ea && corE sg false hi eh | _ => false)
  | none => false
 | .call f ms, e => match q2n e with
  | some (ef, es, [], _) => (match q0P ef with | some x => sg.fn[f]? == some x && gloB sg x && x != "__debug__" | none => false) && !es.isEmpty && q0R sg ms es
  | _ => false
 | .bi f ms, e => match q2n e with
  | some (ef, es, [], _) => bltB sg (z4g f) ef && !es.isEmpty && (match f with
   | .sset | .lset => (match es with
    | [e1] => (match q2n e1 with
     | some (ef', es', [], _) => bltB sg "set" ef' && es'.length == 1 && q0R sg ms es'
     | _ => false)
    | _ => false)
   | .lrng => (match es with
    | [e1] => (match q2n e1 with
     | some (ef', es', [], _) => bltB sg "range" ef' && es'.length == 1 && q0R sg ms es'
     | _ => false)
    | _ => false)
   | _ => q0R sg ms es)
  | _ => false
 | .isi a ts, e => match q2n e with
  | some (ef, [ea, et], [], _) => bltB sg "isinstance" ef && corE sg false a ea && !q0s ea && !q0s et && (match ts with
   | [t] => q0P et == some t && gloB sg t && sg.bl.contains t && q1i.contains t
   | [t, u] => (match q2K et with
    | some [e1, e2] => (q0P e1 == some t && gloB sg t && sg.bl.contains t && q1i.contains t) && (q0P e2 == some u && gloB sg u && sg.bl.contains u && q1i.contains u)
    | _ => false)
   | _ => false)
  | _ => false
 | .isx a t, e => match q2n e with
  | some (ef, [ea, et], [], _) => bltB sg "isinstance" ef && corE sg false a ea && !q0s ea && !q0s et && q0P et == some t && gloB sg t && ((sg.cl.contains t && t != "__debug__") || (sg.bl.contains t && q9j.contains t))
  | _ => false
 | .comp elt tg it fr, e => match q4i e with
  | some c => c.ifs.isEmpty && (corE sg true it c.it && (!isZp it || (q2K c.tg).isSome)) && !q2B c.it && (match q9e tg c.tg with
   | some tn => q2N sg (q1x sg tn fr) fr c.sc tg && tgOk ⟨q1x sg tn fr, c.sc.names, sg.fn, sg.bl, sg.cl, false, true⟩ tg c.tg && corE ⟨q1x sg tn fr, c.sc.names, sg.fn, sg.bl, sg.cl, false, true⟩ false elt c.elt
   | none => false)
  | none => false
 | .compi elt tg it cd fr, e => match q4i e with
  | some c => (corE sg true it c.it && (!isZp it || (q2K c.tg).isSome)) && !q2B c.it && (match q9e tg c.tg, c.ifs with
   | some tn, [ec] => q2N sg (q1x sg tn fr) fr c.sc tg && tgOk ⟨q1x sg tn fr, c.sc.names, sg.fn, sg.bl, sg.cl, false, true⟩ tg c.tg && corE ⟨q1x sg tn fr, c.sc.names, sg.fn, sg.bl, sg.cl, false, true⟩ false elt c.elt && corE ⟨q1x sg tn fr, c.sc.names, sg.fn, sg.bl, sg.cl, false, true⟩ false cd ec
   | _, _ => false)
  | none => false
 | .rng ms, e => w && (match q2n e with
  | some (ef, es, [], _) => bltB sg "range" ef && q0R sg ms es && decide (es.length <= 3)
  | _ => false)
noncomputable def q0R (sg : Sg) : List ME -> List Expr -> Bool
 | [], [] => true
 | m :: ms, e :: es => corE sg false m e && !q0s e && q0R sg ms es
 | _, _ => false
end
noncomputable def q5M : ExceptHandler -> Option (Option Expr × Option Str × List Stmt) | .ExceptHandler t n b _ => some (t, n, b)
noncomputable def parB (sg : Sg) (i j : Nat) (a b x y : Expr) : Bool := match q0P x, q0P y with
 | some x', some y' => i != j && sg.N[i]? == some x' && sg.N[j]? == some y' && sg.sc.lookup x' == some .local && sg.sc.lookup y' == some .local && y.pos.line == x.pos.line && !q0s a && !q0s b && ![a, b].all (foldedForSure 8) && ![a, b].all (constantsAlone 8)
 | _, _ => false
mutual
noncomputable def corS (sg : Sg) : MS -> Stmt -> Bool
 | .set i _ e, s => match s with
  | .Assign [t] v pos => (match t with
   | .Name x pt => sg.N[i]? == some x && locB sg x && corE sg false e v && (!q5t v || q7I e)
   | _ => false)
  | _ => false
 | .par is es, s => match s with
  | .Assign [t] v _ => (match q2K t, q2K v, is with
   | some [x, y], some [a, b], [i, j] => parB sg i j a b x y && q0R sg es [a, b]
   | _, _, _ => false)
  | _ => false
 | .app i e, s => match s with
  | .Expr v _ => (match q2n v with
   | some (ef, [ea], [], pos) => (match q6u ef with
    | some (o, n, apos) => n == "append" && (match q0P o with | some x => q7d sg i x | none => false) && corE sg false e ea && !q0s ea && apos.endLine == pos.line
    | none => false)
   | _ => false)
  | _ => false
 | .ext i e, s => match s with
  | .Expr v _ => (match q2n v with
   | some (ef, [ea], [], pos) => (match q6u ef with
    | some (o, n, apos) => n == "extend" && (match q0P o with | some x => q7d sg i x | none => false) && corE sg false e ea && !q0s ea && apos.endLine == pos.line
    | none => false)
   | _ => false)
  | _ => false
 | .seti i k e, s => match s with
  | .Assign [t] v _ => (match q6d t with
   | some (o, ek) => (match q0P o with | some x => q7d sg i x | none => false) && corE sg false k ek && !q4S ek && corE sg false e v
   | none => false)
  | _ => false
 | .exp e, s => match s with
  | .Expr v _ => corE sg false e v && !q5t v
  | _ => false
 | .ret e, s => match s with
  | .Return (some v) _ => corE sg false e v
  | _ => false
 | .ret0 ms, s => match s with
  | .Return (some v) _ => (match q2K v with | some es => q0R sg ms es | none => false)
  | _ => false
 | .iff c a b, s => match s with
  | .If ec ea eb _ => corE sg false c ec && q2C sg a ea && q2C sg b eb
  | _ => false
 | .fo tg it body, s => match s with
  | .For t i b [] _ => sg.lp && tgOk sg tg t && (corE sg true it i && (!isZp it || (q2K t).isSome)) && !q2B i && q2C sg body b
  | _ => false
 | .wh c body, s => match s with
  | .While t b [] _ => sg.lp && corE sg false c t && q2C sg body b
  | _ => false
 | .rse c e, s => match s with
  | .Raise (some v) none _ => (match q2n v with
   | some (ef, [ea], [], _) => sg.top && q0P ef == some c && gloB sg c && c != "__debug__" && corE sg false e ea && !q0s ea
   | _ => false)
  | _ => false
 | .tryc body c ie ic, s => match s with
  | .Try b [h] [] [] _ => sg.top && q2C ⟨sg.N, sg.sc, sg.fn, sg.bl, sg.cl, false, false⟩ body b && (match q5M h with
   | some (some t, some n, [.Assign [t2] v2 _]) => q0P t == some c && gloB sg c && c != "__debug__" && sg.cl.contains c && sg.N[ie]? == some n && sg.sc.lookup n == some .local && n != "__debug__" && n != "__classdict__" &&
     q0P v2 == some n && (match q0P t2 with | some x => sg.N[ic]? == some x && locB sg x | none => false) && ie != ic
   | _ => false)
  | _ => false
 | .frz _, _ => false
noncomputable def q2C (sg : Sg) : List MS -> List Stmt -> Bool
 | [], [] => true
 | .frz _ :: ms, ss => q2C sg ms ss
 | m :: ms, s :: ss => corS sg m s && q2C sg ms ss
 | _, _ => false
end
end L2
end
section
namespace L2
open PySem PySem.Spec PyProof.Rows
structure Dm where
 K : PySem.W.Frag
 mg : Str -> Option Value
noncomputable abbrev Cx.D (X : Cx) : Dm := ⟨X.K, X.mg⟩
noncomputable def SqS (K : PySem.W.Frag) (H : Hp) (a : Addr) (xs : List V) : Prop := (∃ o, H a = some (.frz o (.lst xs))) \/
 ∃ (o : Obj) (its : Array Value) (n : Nat), K.lookup a = some o /\ o.cls = .type "list" /\ o.dict = none /\ o.data = .seq its n /\ its.size <= sizeLine /\ Vals xs its.toList
theorem SqS.sq {K : PySem.W.Frag} {H : Hp} {a : Addr} {xs : List V} (h : SqS K H a xs) : SqL K H a xs := by
 rcases h with h | h
 ·exact .inl (.inr h)
 ·exact .inr h
theorem SqS.of {K : PySem.W.Frag} {H : Hp} {a : Addr} {xs : List V} (hO : Only H) (h : SqL K H a xs) : SqS K H a xs := by
 rcases h with (h | h) | h
 ·rcases hO a with z | ⟨o, ys, z⟩
  ·rw [h] at z; cases z
  ·rw [h] at z; cases z
 ·exact .inl h
 ·exact .inr h
theorem Same.sqs {K : PySem.W.Frag} {H H' : Hp} {a : Addr} {xs : List V} (e : Same H H') (h : SqS K H a xs) : SqS K H' a xs := by
 rcases h with ⟨o, h⟩ | h
 ·exact .inl ⟨o, e _ _ h⟩
 ·exact .inr h
mutual
noncomputable def Rep (D : Dm) (H : Hp) : DV -> V -> Prop
 | .non, v => v = .non
 | .bl b, v => v = .bl b
 | .int i, v => v = .int i
 | .str x, v => v = .str x /\ x.length <= sizeLine
 | .tup ds, v => ∃ a xs, v = .ref a /\ SqT D.K H a xs /\ RepL D H ds xs
 | .lst ds, v => ∃ a xs, v = .ref a /\ H a = some (.lst xs) /\ RepL D H ds xs
 | .dct _ _, v => ∃ a kvs, v = .ref a /\ H a = some (.dK kvs)
 | .exc c, v => ∃ a C, v = .ref a /\ D.mg c = some C /\ H a = some (excO a C)
 | .fn x, v => ∃ f, v = .ref f /\ D.mg x = some (.ref f)
 | .scr ns, v => ∃ a, v = .ref a /\ SqS D.K H a (ns.map V.int)
noncomputable def RepL (D : Dm) (H : Hp) : List DV -> List V -> Prop
 | [], xs => xs = []
 | d :: ds, xs => ∃ v vs, xs = v :: vs /\ Rep D H d v /\ RepL D H ds vs
end
theorem Same.tseq {K : PySem.W.Frag} {H H' : Hp} {a : Addr} {xs : List V} (e : Same H H') (h : SqT K H a xs) : SqT K H' a xs := by
 rcases h with (h | ⟨o, h⟩) | h
 ·exact .inl (.inl (e _ _ h))
 ·exact .inl (.inr ⟨o, e _ _ h⟩)
 ·exact .inr h
mutual
theorem Rep.mono {D : Dm} {H H' : Hp} (e : Same H H') : ∀ {d : DV} {v : V}, Rep D H d v -> Rep D H' d v
 | .non, _, h => by unfold Rep at h ⊢; exact h
 | .bl _, _, h => by unfold Rep at h ⊢; exact h
 | .int _, _, h => by unfold Rep at h ⊢; exact h
 | .str _, _, h => by unfold Rep at h ⊢; exact h
 | .tup ds, _, h => by
  unfold Rep at h ⊢
  obtain ⟨a, xs, e1, e2, e3⟩ := h
  exact ⟨a, xs, e1, e.tseq e2, RepL.mono e e3⟩
 | .lst ds, _, h => by
  unfold Rep at h ⊢
  obtain ⟨a, xs, e1, e2, e3⟩ := h
  exact ⟨a, xs, e1, e _ _ e2, RepL.mono e e3⟩
 | .dct _ _, _, h => by
  unfold Rep at h ⊢
  obtain ⟨a, kvs, e1, e2⟩ := h
  exact ⟨a, kvs, e1, e _ _ e2⟩
 | .exc C, _, h => by
  unfold Rep at h ⊢
  obtain ⟨a, C, e1, e2, e3⟩ := h
  exact ⟨a, C, e1, e2, e _ _ e3⟩
 | .fn _, _, h => by unfold Rep at h ⊢; exact h
 | .scr _, _, h => by
  unfold Rep at h ⊢
  obtain ⟨a, e1, e2⟩ := h
  exact ⟨a, e1, e.sqs e2⟩
theorem RepL.mono {D : Dm} {H H' : Hp} (e : Same H H') : ∀ {ds : List DV} {xs : List V}, RepL D H ds xs -> RepL D H' ds xs
 | [], _, h => by unfold RepL at h ⊢; exact h
 | d :: ds, _, h => by
  unfold RepL at h ⊢
  obtain ⟨v, vs, e1, e2, e3⟩ := h
  exact ⟨v, vs, e1, Rep.mono e e2, RepL.mono e e3⟩
end
section
variable {D : Dm} {H H' : Hp} {v : V} {xs ys : List V} {ds es : List DV} {d : DV}
theorem q0J {i : Int} : Rep D H (.int i) v ↔ v = .int i := by unfold Rep; exact Iff.rfl
theorem q3n {i : Bool} : Rep D H (.bl i) v ↔ v = .bl i := by unfold Rep; exact Iff.rfl
theorem q2c {i : Str} : Rep D H (.str i) v ↔ (v = .str i /\ i.length <= sizeLine) := by unfold Rep; exact Iff.rfl
theorem q2L : Rep D H .non v ↔ v = .non := by unfold Rep; exact Iff.rfl
theorem q0I : Rep D H (.tup ds) v ↔ ∃ a xs, v = .ref a /\ SqT D.K H a xs /\ RepL D H ds xs := by unfold Rep; exact Iff.rfl
theorem q0B : Rep D H (.lst ds) v ↔ ∃ a xs, v = .ref a /\ H a = some (.lst xs) /\ RepL D H ds xs := by unfold Rep; exact Iff.rfl
theorem q6k {c : Str} : Rep D H (.exc c) v ↔ ∃ a C, v = .ref a /\ D.mg c = some C /\ H a = some (excO a C) := by unfold Rep; exact Iff.rfl
theorem z3I {x : Str} : Rep D H (.fn x) v ↔ ∃ f, v = .ref f /\ D.mg x = some (.ref f) := by unfold Rep; exact Iff.rfl
theorem q1S {ns : List Int} : Rep D H (.scr ns) v ↔ ∃ a, v = .ref a /\ SqS D.K H a (ns.map V.int) := by unfold Rep; exact Iff.rfl
theorem q5X {ks : List DKey} {vs : List DV} : Rep D H (.dct ks vs) v ↔ ∃ a kvs, v = .ref a /\ H a = some (.dK kvs) := by unfold Rep; exact Iff.rfl
theorem q0v : RepL D H [] xs ↔ xs = [] := by unfold RepL; exact Iff.rfl
theorem q0j : RepL D H (d :: ds) xs ↔ ∃ v vs, xs = v :: vs /\ Rep D H d v /\ RepL D H ds vs := by
 constructor
 ·intro h; unfold RepL at h; exact h
 ·intro h; unfold RepL; exact h
end
theorem RepL.length {D : Dm} {H : Hp} : ∀ {ds : List DV} {xs : List V}, RepL D H ds xs -> xs.length = ds.length
 | [], _, h => by rw [q0v.mp h]; rfl
 | d :: ds, _, h => by
  obtain ⟨v, vs, e1, _, e3⟩ := q0j.mp h
  rw [e1, List.length_cons, List.length_cons, RepL.length e3]
theorem RepL.get {D : Dm} {H : Hp} : ∀ {ds : List DV} {xs : List V} {i : Nat} {d : DV}, RepL D H ds xs -> ds[i]? = some d -> ∃ v, xs[i]? = some v /\ Rep D H d v
 | [], _, _, _, _, e => by simp at e
 | d :: ds, _, i, d', h, e => by
  obtain ⟨v, vs, e1, e2, e3⟩ := q0j.mp h
  subst e1
  cases i with
  | zero => simp at e; subst e; exact ⟨v, rfl, e2⟩
  | succ i => simpa using RepL.get (i := i) e3 (by simpa using e)
theorem RepL.append {D : Dm} {H : Hp} : ∀ {ds es : List DV} {xs ys : List V}, RepL D H ds xs -> RepL D H es ys -> RepL D H (ds ++ es) (xs ++ ys)
 | [], _, _, _, h, h' => by rw [q0v.mp h]; exact h'
 | d :: ds, _, _, _, h, h' => by
  obtain ⟨v, vs, e1, e2, e3⟩ := q0j.mp h
  subst e1
  exact q0j.mpr ⟨v, _, rfl, e2, RepL.append e3 h'⟩
theorem RepL.one {D : Dm} {H : Hp} {d : DV} {v : V} (h : Rep D H d v) : RepL D H [d] [v] := q0j.mpr ⟨v, [], rfl, h, q0v.mpr rfl⟩
theorem RepL.take {D : Dm} {H : Hp} : ∀ {ds : List DV} {xs : List V} (n : Nat), RepL D H ds xs -> RepL D H (ds.take n) (xs.take n)
 | _, _, 0, _ => q0v.mpr rfl
 | [], _, n + 1, h => by rw [q0v.mp h]; exact q0v.mpr rfl
 | d :: ds, _, n + 1, h => by
  obtain ⟨v, vs, e1, e2, e3⟩ := q0j.mp h
  subst e1
  exact q0j.mpr ⟨v, _, rfl, e2, RepL.take n e3⟩
theorem RepL.drop {D : Dm} {H : Hp} : ∀ {ds : List DV} {xs : List V} (n : Nat), RepL D H ds xs -> RepL D H (ds.drop n) (xs.drop n)
 | _, _, 0, h => h
 | [], _, n + 1, h => by rw [q0v.mp h]; exact q0v.mpr rfl
 | d :: ds, _, n + 1, h => by
  obtain ⟨v, vs, e1, e2, e3⟩ := q0j.mp h
  subst e1
  exact RepL.drop n e3
theorem RepL.set {D : Dm} {H : Hp} {d : DV} {v : V} (q : Rep D H d v) : ∀ {ds : List DV} {xs : List V} (n : Nat), RepL D H ds xs -> RepL D H (ds.set n d) (xs.set n v)
 | [], _, n, h => by rw [q0v.mp h]; exact q0v.mpr rfl
 | _ :: ds, _, 0, h => by
  obtain ⟨v, vs, e1, e2, e3⟩ := q0j.mp h
  subst e1
  exact q0j.mpr ⟨_, _, rfl, q, e3⟩
 | _ :: ds, _, n + 1, h => by
  obtain ⟨v, vs, e1, e2, e3⟩ := q0j.mp h
  subst e1
  exact q0j.mpr ⟨_, _, rfl, e2, RepL.set q n e3⟩
theorem RepL.rep {D : Dm} {H : Hp} {ds : List DV} {xs : List V} (h : RepL D H ds xs) : ∀ k : Nat, RepL D H (List.replicate k ds).flatten (List.replicate k xs).flatten
 | 0 => q0v.mpr rfl
 | k + 1 => by
  rw [List.replicate_succ, List.replicate_succ, List.flatten_cons, List.flatten_cons]
  exact h.append (RepL.rep h k)
theorem q2t {D : Dm} {H : Hp} : ∀ (ns : List Int), RepL D H (ns.map DV.int) (ns.map V.int)
 | [] => q0v.mpr rfl
 | n :: ns => q0j.mpr ⟨_, _, rfl, q0J.mpr rfl, q2t ns⟩
noncomputable def wo (O : List Addr) (H : Hp) : Hp := λ b => if b ∈ O then none else H b
theorem z3j {O : List Addr} {H : Hp} {b : Addr} (h : b ∈ O) : wo O H b = none := if_pos h
theorem q0y {O : List Addr} {H : Hp} {b : Addr} (h : b ∉ O) : wo O H b = H b := if_neg h
theorem q1c {O : List Addr} {H : Hp} {b : Addr} {o : HO} (h : wo O H b = some o) : b ∉ O /\ H b = some o := by
 by_cases hb : b ∈ O
 ·rw [z3j hb] at h; cases h
 ·rw [q0y hb] at h; exact ⟨hb, h⟩
theorem Same.wo {O : List Addr} {H H' : Hp} (e : Same H H') : Same (wo O H) (wo O H') := λ b o h => by
 obtain ⟨hb, h⟩ := q1c h
 rw [q0y hb]; exact e b o h
theorem q1w {O : List Addr} {H : Hp} : Same (L2.wo O H) H := λ b o h => (q1c h).2
theorem q0O {O O' : List Addr} {H : Hp} (h : ∀ b ∈ O', b ∈ O) : Same (L2.wo O H) (L2.wo O' H) := λ b o e => by
 obtain ⟨hb, e⟩ := q1c e
 rw [q0y λ z => hb (h b z)]; exact e
theorem q0q {H : Hp} {p : Addr} {o : HO} (h : H p = none) : Same H (upd H p o) := λ b u q => by rw [q0w (q0t q h)]; exact q
structure Hid (O W : List Addr) (H0 H : Hp) : Prop where
 ot : ∀ a ∈ O ++ W, H0 a ≠ none
 same : Same H0 H
 wl : ∀ a ∈ W, ∃ xs, H0 a = some (.lst xs)
 dj : ∀ a ∈ W, a ∉ O
theorem Hid.mono {O W : List Addr} {H0 H H' : Hp} (h : Hid O W H0 H) (e : Same H H') : Hid O W H0 H' := ⟨h.ot, h.same.trans e, h.wl, h.dj⟩
theorem Hid.newOut {O W : List Addr} {H0 H : Hp} (h : Hid O W H0 H) {p : Addr} (hp : H p = none) : p ∉ O ++ W := λ z => h.ot p z (h.same.free hp)
mutual
theorem Rep.immut {D : Dm} {O W : List Addr} {H : Hp} (hw : ∀ a ∈ W, ∃ xs, H a = some (.lst xs)) : ∀ {d : DV} {v : V}, d.immut = true -> Rep D (L2.wo O H) d v -> Rep D (L2.wo (O ++ W) H) d v
 | .non, _, _, h => by unfold Rep at h ⊢; exact h
 | .bl _, _, _, h => by unfold Rep at h ⊢; exact h
 | .int _, _, _, h => by unfold Rep at h ⊢; exact h
 | .str _, _, _, h => by unfold Rep at h ⊢; exact h
 | .tup ds, _, m, h => by
  unfold Rep at h ⊢
  obtain ⟨a, xs, e1, e2, e3⟩ := h
  have m' : DV.immuts ds = true := by unfold DV.immut at m; exact m
  refine ⟨a, xs, e1, ?_, RepL.immut hw m' e3⟩
  rcases e2 with (h | ⟨o, h⟩) | h
  ·obtain ⟨ha, h⟩ := q1c h
   refine .inl (.inl ?_)
   rw [q0y λ z => ?_]
   ·exact h
   ·rcases List.mem_append.mp z with z | z
    ·exact ha z
    ·obtain ⟨ys, q⟩ := hw a z; rw [h] at q; cases q
  ·obtain ⟨ha, h⟩ := q1c h
   refine .inl (.inr ⟨o, ?_⟩)
   rw [q0y λ z => ?_]
   ·exact h
   ·rcases List.mem_append.mp z with z | z
    ·exact ha z
    ·obtain ⟨ys, q⟩ := hw a z; rw [h] at q; cases q
  ·exact .inr h
 | .lst ds, _, m, _ => by unfold DV.immut at m; cases m
 | .dct _ _, _, m, _ => by unfold DV.immut at m; cases m
 | .exc C, _, _, h => by
  unfold Rep at h ⊢
  obtain ⟨a, C, e1, e2, e3⟩ := h
  obtain ⟨ha, h⟩ := q1c e3
  refine ⟨a, C, e1, e2, ?_⟩
  rw [q0y λ z => ?_]
  ·exact h
  ·rcases List.mem_append.mp z with z | z
   ·exact ha z
   ·obtain ⟨ys, q⟩ := hw a z; rw [h] at q; cases q
 | .fn _, _, _, h => by unfold Rep at h ⊢; exact h
 | .scr ns, _, _, h => by
  unfold Rep at h ⊢
  obtain ⟨a, e1, e2⟩ := h
  refine ⟨a, e1, ?_⟩
  rcases e2 with ⟨o, h⟩ | h
  ·obtain ⟨ha, h⟩ := q1c h
   refine .inl ⟨o, ?_⟩
   rw [q0y λ z => ?_]
   ·exact h
   ·rcases List.mem_append.mp z with z | z
    ·exact ha z
    ·obtain ⟨ys, q⟩ := hw a z; rw [h] at q; cases q
  ·exact .inr h
theorem RepL.immut {D : Dm} {O W : List Addr} {H : Hp} (hw : ∀ a ∈ W, ∃ xs, H a = some (.lst xs)) : ∀ {ds : List DV} {xs : List V}, DV.immuts ds = true -> RepL D (L2.wo O H) ds xs -> RepL D (L2.wo (O ++ W) H) ds xs
 | [], _, _, h => by unfold RepL at h ⊢; exact h
 | d :: ds, _, m, h => by
  unfold RepL at h ⊢
  obtain ⟨v, vs, e1, e2, e3⟩ := h
  unfold DV.immuts at m
  rw [Bool.and_eq_true] at m
  exact ⟨v, vs, e1, Rep.immut hw m.1 e2, RepL.immut hw m.2 e3⟩
end
noncomputable def RepT (D : Dm) (W : List Addr) (Ht H : Hp) (d : DV) (v : V) : Prop := match d with
 | .lst ds => ∃ a xs, v = .ref a /\ a ∈ W /\ Ht a = some (.lst xs) /\ RepL D H ds xs
 | d => Rep D H d v
theorem RepT.mono {D : Dm} {W : List Addr} {Ht Ht' H H' : Hp} {d : DV} {v : V} (et : Same Ht Ht') (e : Same H H') (h : RepT D W Ht H d v) : RepT D W Ht' H' d v := by
 cases d with
 | lst ds => obtain ⟨a, xs, e1, e0, e2, e3⟩ := h; exact ⟨a, xs, e1, e0, et _ _ e2, e3.mono e⟩
 | non => exact Rep.mono (D := D) (d := .non) (v := v) e h
 | bl b => exact Rep.mono (D := D) (d := .bl b) (v := v) e h
 | int b => exact Rep.mono (D := D) (d := .int b) (v := v) e h
 | str b => exact Rep.mono (D := D) (d := .str b) (v := v) e h
 | tup b => exact Rep.mono (D := D) (d := .tup b) (v := v) e h
 | dct b c => exact Rep.mono (D := D) (d := .dct b c) (v := v) e h
 | exc b => exact Rep.mono (D := D) (d := .exc b) (v := v) e h
 | fn b => exact Rep.mono (D := D) (d := .fn b) (v := v) e h
 | scr b => exact Rep.mono (D := D) (d := .scr b) (v := v) e h
theorem RepT.rep {D : Dm} {W : List Addr} {Ht H : Hp} {d : DV} {v : V} (e : Same H Ht) (h : RepT D W Ht H d v) : Rep D Ht d v := by
 cases d with
 | lst ds => obtain ⟨a, xs, e1, e0, e2, e3⟩ := h; exact q0B.mpr ⟨a, xs, e1, e2, e3.mono e⟩
 | non => exact Rep.mono (D := D) (d := .non) (v := v) e h
 | bl b => exact Rep.mono (D := D) (d := .bl b) (v := v) e h
 | int b => exact Rep.mono (D := D) (d := .int b) (v := v) e h
 | str b => exact Rep.mono (D := D) (d := .str b) (v := v) e h
 | tup b => exact Rep.mono (D := D) (d := .tup b) (v := v) e h
 | dct b c => exact Rep.mono (D := D) (d := .dct b c) (v := v) e h
 | exc b => exact Rep.mono (D := D) (d := .exc b) (v := v) e h
 | fn b => exact Rep.mono (D := D) (d := .fn b) (v := v) e h
 | scr b => exact Rep.mono (D := D) (d := .scr b) (v := v) e h
noncomputable def Got (D : Dm) (O W : List Addr) (H0 H : Hp) (d : DV) (c : Cl) (v : V) : Prop := match c with
 | .weak => Rep D (L2.wo O H) d v
 | .top => RepT D W (L2.wo O H) (L2.wo (O ++ W) H) d v
 | .strong => Rep D (L2.wo (O ++ W) H) d v
 | .fresh => ∃ p xs ds, v = .ref p /\ d = .lst ds /\ H0 p = none /\ H p = some (.lst xs) /\ RepL D (L2.wo (p :: (O ++ W)) H) ds xs
 | .ft => ∃ t ts p xs ds es, v = .ref t /\ d = .tup (.lst ds :: es) /\ SqT D.K (L2.wo (O ++ W) H) t (.ref p :: ts) /\ H0 p = none /\ H p = some (.lst xs) /\ RepL D (L2.wo (p :: (O ++ W)) H) ds xs /\ RepL D (L2.wo (p :: (O ++ W)) H) es ts
section
variable {D : Dm} {O W : List Addr} {H0 H H' : Hp} {d : DV} {ds : List DV} {c : Cl} {v : V}
theorem q5u : ∀ b ∈ O, b ∈ O ++ W := λ _ h => List.mem_append_left _ h
theorem Got.mono (h : Got D O W H0 H d c v) (e : Same H H') : Got D O W H0 H' d c v := by
 cases c with
 | weak => exact Rep.mono e.wo h
 | top => exact RepT.mono e.wo e.wo h
 | strong => exact Rep.mono e.wo h
 | fresh =>
  obtain ⟨p, xs, ds, e1, e2, e3, e4, e5⟩ := h
  exact ⟨p, xs, ds, e1, e2, e3, e _ _ e4, e5.mono e.wo⟩
 | ft =>
  obtain ⟨t, ts, p, xs, ds, es, e1, e2, e0, e3, e4, e5, e6⟩ := h
  exact ⟨t, ts, p, xs, ds, es, e1, e2, e.wo.tseq e0, e3, e _ _ e4, e5.mono e.wo, e6.mono e.wo⟩
theorem Got.since {H1 : Hp} (h : Got D O W H1 H d c v) (e : Same H0 H1) : Got D O W H0 H d c v := by
 cases c with
 | weak => exact h
 | top => exact h
 | strong => exact h
 | fresh =>
  obtain ⟨p, xs, ds, e1, e2, e3, e4, e5⟩ := h
  exact ⟨p, xs, ds, e1, e2, e.free e3, e4, e5⟩
 | ft =>
  obtain ⟨t, ts, p, xs, ds, es, e1, e2, e0, e3, e4, e5, e6⟩ := h
  exact ⟨t, ts, p, xs, ds, es, e1, e2, e0, e.free e3, e4, e5, e6⟩
theorem Got.ft (h : Got D O W H0 H d .ft v) (hd : Hid O W H0 H) : Rep D (L2.wo (O ++ W) H) d v := by
 obtain ⟨t, ts, p, xs, ds, es, e1, e2, e0, e3, e4, e5, e6⟩ := h
 have hp : p ∉ O ++ W := λ z => hd.ot p z e3
 have up : Same (L2.wo (p :: (O ++ W)) H) (L2.wo (O ++ W) H) := q0O λ b hb => List.mem_cons_of_mem _ hb
 rw [e2]
 exact q0I.mpr ⟨t, _, e1, e0, q0j.mpr ⟨_, _, rfl, q0B.mpr ⟨p, xs, rfl, by rw [q0y hp]; exact e4, e5.mono up⟩, e6.mono up⟩⟩
theorem Got.strong (h : Got D O W H0 H d .fresh v) (hd : Hid O W H0 H) : Rep D (L2.wo (O ++ W) H) d v := by
 obtain ⟨p, xs, ds, e1, e2, e3, e4, e5⟩ := h
 have hp : p ∉ O ++ W := λ z => hd.ot p z e3
 rw [e2]
 exact q0B.mpr ⟨p, xs, e1, by rw [q0y hp]; exact e4, e5.mono (q0O λ b hb => List.mem_cons_of_mem _ hb)⟩
theorem Got.weak (h : Got D O W H0 H d c v) (hd : Hid O W H0 H) : Rep D (L2.wo O H) d v := by
 cases c with
 | weak => exact h
 | top => exact RepT.rep (q0O q5u) h
 | strong => exact Rep.mono (q0O q5u) h
 | fresh => exact Rep.mono (q0O q5u) (h.strong hd)
 | ft => exact Rep.mono (q0O q5u) (h.ft hd)
theorem Got.all (h : Got D O W H0 H d c v) (hd : Hid O W H0 H) : Rep D H d v := Rep.mono q1w (h.weak hd)
theorem Got.stro (h : Got D O W H0 H d c v) (hd : Hid O W H0 H) (hs : L2.stro d c = true) : Rep D (L2.wo (O ++ W) H) d v := by
 cases c with
 | strong => exact h
 | fresh => exact h.strong hd
 | ft => exact h.ft hd
 | weak => exact Rep.immut (λ a ha => by obtain ⟨xs, e⟩ := hd.wl a ha; exact ⟨xs, hd.same _ _ e⟩) hs (h.weak hd)
 | top => exact Rep.immut (λ a ha => by obtain ⟨xs, e⟩ := hd.wl a ha; exact ⟨xs, hd.same _ _ e⟩) hs (h.weak hd)
theorem Got.items (h : Got D O W H0 H (.lst ds) c v) (hd : Hid O W H0 H) (hc : c ≠ .weak) : ∃ a xs, v = .ref a /\ H a = some (.lst xs) /\ RepL D (L2.wo (O ++ W) H) ds xs := by
 cases c with
 | weak => exact absurd rfl hc
 | top =>
  obtain ⟨a, xs, e1, e0, e2, e3⟩ := h
  exact ⟨a, xs, e1, q1w _ _ e2, e3⟩
 | strong =>
  obtain ⟨a, xs, e1, e2, e3⟩ := q0B.mp h
  exact ⟨a, xs, e1, q1w _ _ e2, e3⟩
 | fresh =>
  obtain ⟨a, xs, e1, e2, e3⟩ := q0B.mp (h.strong hd)
  exact ⟨a, xs, e1, q1w _ _ e2, e3⟩
 | ft =>
  obtain ⟨a, xs, e1, e2, e3⟩ := q0B.mp (h.ft hd)
  exact ⟨a, xs, e1, q1w _ _ e2, e3⟩
theorem Got.itemsT (h : Got D O W H0 H (.tup ds) c v) (hd : Hid O W H0 H) (hc : c ≠ .weak) : ∃ a xs, v = .ref a /\ SqT D.K H a xs /\ RepL D (L2.wo (O ++ W) H) ds xs := by
 cases c with
 | weak => exact absurd rfl hc
 | top =>
  obtain ⟨a, xs, e1, e2, e3⟩ := q0I.mp (show Rep D (L2.wo (O ++ W) H) (.tup ds) v from h)
  exact ⟨a, xs, e1, q1w.tseq e2, e3⟩
 | strong =>
  obtain ⟨a, xs, e1, e2, e3⟩ := q0I.mp h
  exact ⟨a, xs, e1, q1w.tseq e2, e3⟩
 | fresh =>
  obtain ⟨p, xs, ds, e1, e2, e3, e4, e5⟩ := h
  cases e2
 | ft =>
  obtain ⟨a, xs, e1, e2, e3⟩ := q0I.mp (h.ft hd)
  exact ⟨a, xs, e1, q1w.tseq e2, e3⟩
theorem Got.lst (h : Got D O W H0 H (.lst ds) c v) (hd : Hid O W H0 H) : ∃ a xs, v = .ref a /\ H a = some (.lst xs) /\ RepL D (L2.wo O H) ds xs := by
 obtain ⟨a, xs, e1, e2, e3⟩ := q0B.mp (h.weak hd)
 exact ⟨a, xs, e1, q1w _ _ e2, e3⟩
theorem Got.tup (h : Got D O W H0 H (.tup ds) c v) (hd : Hid O W H0 H) : ∃ a xs, v = .ref a /\ SqT D.K H a xs /\ RepL D (L2.wo O H) ds xs := by
 obtain ⟨a, xs, e1, e2, e3⟩ := q0I.mp (h.weak hd)
 exact ⟨a, xs, e1, q1w.tseq e2, e3⟩
noncomputable def q1C (O W : List Addr) : Cl -> List Addr
 | .weak => O
 | _ => O ++ W
theorem Got.lstC (h : Got D O W H0 H (.lst ds) c v) (hd : Hid O W H0 H) : ∃ a xs, v = .ref a /\ H a = some (.lst xs) /\ RepL D (L2.wo (q1C O W c) H) ds xs := by
 cases c with
 | weak => exact h.lst hd
 | top => exact h.items hd (by intro z; cases z)
 | strong => exact h.items hd (by intro z; cases z)
 | fresh => exact h.items hd (by intro z; cases z)
 | ft => exact h.items hd (by intro z; cases z)
theorem Got.tupC (h : Got D O W H0 H (.tup ds) c v) (hd : Hid O W H0 H) : ∃ a xs, v = .ref a /\ SqT D.K H a xs /\ RepL D (L2.wo (q1C O W c) H) ds xs := by
 cases c with
 | weak => exact h.tup hd
 | top => exact h.itemsT hd (by intro z; cases z)
 | strong => exact h.itemsT hd (by intro z; cases z)
 | fresh => exact h.itemsT hd (by intro z; cases z)
 | ft => exact h.itemsT hd (by intro z; cases z)
theorem Got.item (h : Rep D (L2.wo (q1C O W c) H) d v) : Got D O W H0 H d c.item v := by
 cases c <;> exact h
theorem q0K {i : Int} (hc : c ≠ .fresh := by intro z; cases z) (hc' : c ≠ .ft := by intro z; cases z) : Got D O W H0 H (.int i) c (.int i) := by
 have q : ∀ H, Rep D H (.int i) (.int i) := λ H => q0J.mpr rfl
 cases c with
 | fresh => exact absurd rfl hc
 | ft => exact absurd rfl hc'
 | weak => exact q (L2.wo O H)
 | strong => exact q (L2.wo (O ++ W) H)
 | top => exact q (L2.wo (O ++ W) H)
theorem q2U {i : Bool} : Got D O W H0 H (.bl i) .strong (.bl i) := (q3n.mpr rfl : Rep D (L2.wo (O ++ W) H) (.bl i) (.bl i))
theorem z2c : Got D O W H0 H .non .strong .non := (q2L.mpr rfl : Rep D (L2.wo (O ++ W) H) .non .non)
theorem Got.int {i : Int} (h : Got D O W H0 H (.int i) c v) (hd : Hid O W H0 H) : v = .int i := q0J.mp (h.weak hd)
theorem Got.bl {i : Bool} (h : Got D O W H0 H (.bl i) c v) (hd : Hid O W H0 H) : v = .bl i := q3n.mp (h.weak hd)
theorem Got.str {x : Str} (h : Got D O W H0 H (.str x) c v) (hd : Hid O W H0 H) : v = .str x /\ x.length <= sizeLine := q2c.mp (h.weak hd)
theorem q2k {p : Addr} {xs : List V} (hd : Hid O W H0 H) (hp : H p = none) (r : RepL D (L2.wo (O ++ W) H) ds xs) : Got D O W H0 (upd H p (.lst xs)) (.lst ds) .fresh (.ref p) := by
 refine ⟨p, xs, ds, rfl, rfl, hd.same.free hp, q0V, r.mono λ b o e => ?_⟩
 obtain ⟨hb, e⟩ := q1c e
 have hbp : b ≠ p := q0t e hp
 rw [q0y (by intro z; rcases List.mem_cons.mp z with z | z; exact hbp z; exact hb z), q0w hbp]
 exact e
theorem q4I {p : Addr} {xs : List V} (hd : Hid O W H0 H) (hp : H p = none) (r : RepL D (L2.wo O H) ds xs) : Got D O W H0 (upd H p (.lst xs)) (.lst ds) .weak (.ref p) := by
 have hpo : p ∉ O := λ z => hd.newOut hp (List.mem_append_left _ z)
 exact q0B.mpr ⟨p, xs, rfl, by rw [q0y hpo]; exact q0V, r.mono (q0q hp).wo⟩
theorem q3D {p : Addr} {xs : List V} (hd : Hid O W H0 H) (hp : H p = none) (r : RepL D (L2.wo (q1C O W c) H) ds xs) : Got D O W H0 (upd H p (.lst xs)) (.lst ds) (Cl.anew c c) (.ref p) := by
 cases c with
 | weak => exact q4I hd hp r
 | top => exact q2k hd hp r
 | strong => exact q2k hd hp r
 | fresh => exact q2k hd hp r
 | ft => exact q2k hd hp r
theorem q3g {p : Addr} {xs : List V} (hd : Hid O W H0 H) (hp : H p = none) (r : RepL D (L2.wo (O ++ W) H) ds xs) : Got D O W H0 (upd H p (.tup xs)) (.tup ds) .strong (.ref p) :=
 q0I.mpr ⟨p, xs, rfl, SqT.of (by rw [q0y (hd.newOut hp)]; exact q0V), r.mono (q0q hp).wo⟩
theorem q4T {p : Addr} {xs : List V} (hd : Hid O W H0 H) (hp : H p = none) (r : RepL D (L2.wo O H) ds xs) : Got D O W H0 (upd H p (.tup xs)) (.tup ds) .weak (.ref p) :=
 q0I.mpr ⟨p, xs, rfl, SqT.of (by rw [q0y λ z => hd.newOut hp (List.mem_append_left _ z)]; exact q0V), r.mono (q0q hp).wo⟩
theorem q6Y {p : Addr} {xs : List V} (hd : Hid O W H0 H) (hp : H p = none) (r : RepL D (L2.wo (q1C O W c) H) ds xs) : Got D O W H0 (upd H p (.tup xs)) (.tup ds) c.item (.ref p) := by
 cases c with
 | weak => exact q4T hd hp r
 | top => exact q3g hd hp r
 | strong => exact q3g hd hp r
 | fresh => exact q3g hd hp r
 | ft => exact q3g hd hp r
end
inductive GotL (D : Dm) (O W : List Addr) (H0 H : Hp) : List (DV × Cl) -> List V -> Prop where
 | nil : GotL D O W H0 H [] []
 | cons {d : DV} {c : Cl} {v : V} {l : List (DV × Cl)} {vs : List V} : Got D O W H0 H d c v -> GotL D O W H0 H l vs -> GotL D O W H0 H ((d, c) :: l) (v :: vs)
section
variable {D : Dm} {O W : List Addr} {H0 H H' : Hp}
theorem GotL.repL {l : List (DV × Cl)} {vs : List V} (h : GotL D O W H0 H l vs) (hd : Hid O W H0 H) : RepL D (L2.wo O H) (l.map (·.1)) vs := by
 induction h with
 | nil => exact q0v.mpr rfl
 | cons h _ ih => exact q0j.mpr ⟨_, _, rfl, h.weak hd, ih⟩
theorem GotL.stros {l : List (DV × Cl)} {vs : List V} (h : GotL D O W H0 H l vs) (hd : Hid O W H0 H) (hs : L2.stros l = true) : RepL D (L2.wo (O ++ W) H) (l.map (·.1)) vs := by
 induction h with
 | nil => exact q0v.mpr rfl
 | cons h _ ih =>
  unfold L2.stros at hs
  rw [List.all_cons, Bool.and_eq_true] at hs
  exact q0j.mpr ⟨_, _, rfl, h.stro hd hs.1, ih hs.2⟩
theorem GotL.length {l : List (DV × Cl)} {vs : List V} (h : GotL D O W H0 H l vs) : vs.length = l.length := by
 induction h with
 | nil => rfl
 | cons _ _ ih => rw [List.length_cons, List.length_cons, ih]
theorem GotL.strong {l : List (DV × Cl)} {vs : List V} (h : GotL D O W H0 H l vs) (hd : Hid O W H0 H) (hs : (l.all λ p => p.2 == .strong || p.2 == .fresh) = true) : RepL D (L2.wo (O ++ W) H) (l.map (·.1)) vs := by
 refine h.stros hd ?_
 unfold L2.stros
 rw [List.all_eq_true] at hs ⊢
 intro p hp
 have := hs p hp
 unfold L2.stro
 cases e : p.2 <;> rw [e] at this <;> first | rfl | cases this
theorem GotL.one {d : DV} {c : Cl} {vs : List V} (h : GotL D O W H0 H [(d, c)] vs) : ∃ v, vs = [v] /\ Got D O W H0 H d c v := by
 cases h with
 | cons h t => cases t; exact ⟨_, rfl, h⟩
theorem GotL.two {d d' : DV} {c c' : Cl} {vs : List V} (h : GotL D O W H0 H [(d, c), (d', c')] vs) : ∃ v v', vs = [v, v'] /\ Got D O W H0 H d c v /\ Got D O W H0 H d' c' v' := by
 cases h with
 | cons h t => obtain ⟨v', e, h'⟩ := t.one; subst e; exact ⟨_, _, rfl, h, h'⟩
theorem GotL.three {d d' d2 : DV} {c c' c2 : Cl} {vs : List V} (h : GotL D O W H0 H [(d, c), (d', c'), (d2, c2)] vs) : ∃ v v' v2, vs = [v, v', v2] /\ Got D O W H0 H d c v /\ Got D O W H0 H d' c' v' /\ Got D O W H0 H d2 c2 v2 := by
 cases h with
 | cons h t => obtain ⟨v', v2, e, h', h2⟩ := t.two; subst e; exact ⟨_, _, _, rfl, h, h', h2⟩
end
noncomputable def O2At (H : Hp) (W : List Addr) (p : Addr) (L : List (Addr × List Int)) : Prop := p ∈ W /\ H p = some (.lst (L.map λ q => .ref q.1)) /\ (∀ q ∈ L, q.1 ∈ W /\ H q.1 = some (.lst (q.2.map V.int))) /\ (p :: L.map (·.1)).Nodup
noncomputable def o2D (L : List (Addr × List Int)) : DV := .lst (L.map λ q => .lst (q.2.map DV.int))
theorem O2At.mono {H H' : Hp} {W : List Addr} {p : Addr} {L : List (Addr × List Int)} (h : O2At H W p L) (e : Same H H') : O2At H' W p L := ⟨h.1, e _ _ h.2.1, λ q hq => ⟨(h.2.2.1 q hq).1, e _ _ (h.2.2.1 q hq).2⟩, h.2.2.2⟩
theorem O2At.sub {H : Hp} {W W' : List Addr} {p : Addr} {L : List (Addr × List Int)} (h : O2At H W p L) (e : ∀ a ∈ p :: L.map (·.1), a ∈ W -> a ∈ W') : O2At H W' p L :=
 ⟨e _ (List.mem_cons_self ..) h.1, h.2.1, λ q hq => ⟨e _ (List.mem_cons_of_mem _ (List.mem_map.mpr ⟨q, hq, rfl⟩)) (h.2.2.1 q hq).1, (h.2.2.1 q hq).2⟩, h.2.2.2⟩
theorem O2At.dom {H : Hp} {W : List Addr} {p a : Addr} {L : List (Addr × List Int)} (h : O2At H W p L) (ha : a ∈ p :: L.map (·.1)) : a ∈ W /\ ∃ xs, H a = some (.lst xs) := by
 rcases List.mem_cons.mp ha with z | z
 ·rw [z]; exact ⟨h.1, _, h.2.1⟩
 ·obtain ⟨q, hq, rfl⟩ := List.mem_map.mp z
  exact ⟨(h.2.2.1 q hq).1, _, (h.2.2.1 q hq).2⟩
theorem O2At.write {H : Hp} {W : List Addr} {p a : Addr} {o : HO} {L : List (Addr × List Int)} (h : O2At H W p L) (ha : a ∉ p :: L.map (·.1)) : O2At (upd H a o) W p L :=
 ⟨h.1, by rw [q0w λ z => ha (by rw [← z]; exact List.mem_cons_self ..)]; exact h.2.1, λ q hq => ⟨(h.2.2.1 q hq).1, by rw [q0w λ z => ha (by rw [← z]; exact List.mem_cons_of_mem _ (List.mem_map.mpr ⟨q, hq, rfl⟩))]; exact (h.2.2.1 q hq).2⟩, h.2.2.2⟩
structure RSt (D : Dm) (H : Hp) (σ : St) (δ : List Sv) (O W : List Addr) : Prop where
 val : ∀ (i : Nat) d, δ[i]? = some (.val d) -> ∃ v, σ[i]? = some (some v) /\ Rep D (L2.wo (O ++ W) H) d v
 own : ∀ (i : Nat) d, δ[i]? = some (.own d) -> ∃ a xs ds, d = .lst ds /\ σ[i]? = some (some (.ref a)) /\ a ∈ W /\ H a = some (.lst xs) /\ RepL D (L2.wo (O ++ W) H) ds xs
 inj : ∀ (i j : Nat) a d d', δ[i]? = some (.own d) -> δ[j]? = some (.own d') -> σ[i]? = some (some (.ref a)) -> σ[j]? = some (some (.ref a)) -> i = j
 ot : ∀ (i : Nat) d, δ[i]? = some (.ot d) -> (∃ t ts p xs ds es, d = .tup (.lst ds :: es) /\ σ[i]? = some (some (.ref t)) /\ SqT D.K (L2.wo (O ++ W) H) t (.ref p :: ts) /\ p ∈ W /\ H p = some (.lst xs) /\ RepL D (L2.wo (O ++ W) H) ds xs /\ RepL D (L2.wo (O ++ W) H) es ts /\
  ∀ (j : Nat) d', δ[j]? = some (.own d') -> σ[j]? ≠ some (some (.ref p))) /\ ∀ (j : Nat) d', δ[j]? = some (.ot d') -> j = i
 o2 : ∀ (i : Nat) d, δ[i]? = some (.o2 d) -> (∃ p L, d = o2D L /\ σ[i]? = some (some (.ref p)) /\ O2At H W p L /\ ∀ (j : Nat) d' a, δ[j]? = some (.own d') -> σ[j]? = some (some (.ref a)) -> a ∉ p :: L.map (·.1)) /\ (∀ (j : Nat) d', δ[j]? = some (.o2 d') -> j = i) /\ ∀ (j : Nat) d', δ[j]? ≠ some (.ot d')
 len : σ.length = δ.length
 hid : Hid O W H H
theorem Hid.later {O W : List Addr} {H H' : Hp} (h : Hid O W H H) (e : Same H H') : Hid O W H' H' := ⟨λ a ha q => h.ot a ha (e.free q), Same.refl _, λ a ha => by obtain ⟨xs, q⟩ := h.wl a ha; exact ⟨xs, e _ _ q⟩, h.dj⟩
theorem RSt.mono {D : Dm} {H H' : Hp} {σ : St} {δ : List Sv} {O W : List Addr} (R : RSt D H σ δ O W) (e : Same H H') : RSt D H' σ δ O W where
 val := λ i d h => by obtain ⟨v, e1, e2⟩ := R.val i d h; exact ⟨v, e1, e2.mono e.wo⟩
 own := λ i ds h => by obtain ⟨a, xs, ds, e0, e1, e2, e3, e4⟩ := R.own i ds h; exact ⟨a, xs, ds, e0, e1, e2, e _ _ e3, e4.mono e.wo⟩
 inj := R.inj
 ot := λ i d h => by
  obtain ⟨⟨t, ts, p, xs, ds, es, e0, e1, e2, e3, e4, e5, e6, e7⟩, u⟩ := R.ot i d h
  exact ⟨⟨t, ts, p, xs, ds, es, e0, e1, e.wo.tseq e2, e3, e _ _ e4, e5.mono e.wo, e6.mono e.wo, e7⟩, u⟩
 o2 := λ i d h => by
  obtain ⟨⟨p, L, e0, e1, e2, e3⟩, u, n⟩ := R.o2 i d h
  exact ⟨⟨p, L, e0, e1, e2.mono e, e3⟩, u, n⟩
 len := R.len
 hid := R.hid.later e
noncomputable def Post (D : Dm) (E : St -> XK) (σ : St) (O W : List Addr) (H0 H : Hp) (Q : VK) : Re -> Prop
 | .ok d c => ∀ v H', Same H H' -> Got D O W H0 H' d c v -> Q v H'
 | .ex c => ∀ H' C, D.mg c = some C -> Same H H' -> E σ C none H'
noncomputable def dE (D : Dm) (E : St -> XK) (δ : List Sv) (r : Re) : TE := λ σ H Q => ∃ O W, RSt D H σ δ O W /\ Post D E σ O W H H Q r
noncomputable def z5Z (D : Dm) (E : St -> XK) (σ : St) (O W : List Addr) (H0 H : Hp) (Q : List V -> Hp -> Prop) : Rs -> Prop
 | .ok l => ∀ vs H', Same H H' -> GotL D O W H0 H' l vs -> Q vs H'
 | .ex c => ∀ H' C, D.mg c = some C -> Same H H' -> E σ C none H'
noncomputable def dA (D : Dm) (E : St -> XK) (δ : List Sv) (r : Rs) : TA := λ σ H Q => ∃ O W, RSt D H σ δ O W /\ z5Z D E σ O W H H Q r
noncomputable def q9u (D : Dm) (E : St -> XK) (σ : St) (H : Hp) (Q : Bool -> Hp -> Prop) : Rt -> Prop
 | .ok b => ∀ H', Same H H' -> Q b H'
 | .ex c => ∀ H' C, D.mg c = some C -> Same H H' -> E σ C none H'
noncomputable def dT (D : Dm) (E : St -> XK) (δ : List Sv) (r : Rt) : TT := λ σ H Q => ∃ O W, RSt D H σ δ O W /\ q9u D E σ H Q r
theorem Post.step {D : Dm} {E : St -> XK} {σ : St} {O W : List Addr} {H0 H H1 : Hp} {Q : VK} {r : Re} (h : Post D E σ O W H0 H Q r) (e : Same H H1) : Post D E σ O W H0 H1 Q r := by
 cases r with
 | ok d c => exact λ v H' s g => h v H' (e.trans s) g
 | ex c => exact λ H' C m s => h H' C m (e.trans s)
theorem Post.later {D : Dm} {E : St -> XK} {σ : St} {O W : List Addr} {H0 H H1 : Hp} {Q : VK} {r : Re} (h : Post D E σ O W H0 H Q r) (e : Same H H1) (e0 : Same H0 H1) : Post D E σ O W H1 H1 Q r := by
 cases r with
 | ok d c => exact λ v H' s g => h v H' (e.trans s) (g.since e0)
 | ex c => exact λ H' C m s => h H' C m (e.trans s)
theorem GotL.since {D : Dm} {O W : List Addr} {H0 H1 H : Hp} {l : List (DV × Cl)} {vs : List V} (h : GotL D O W H1 H l vs) (e : Same H0 H1) : GotL D O W H0 H l vs := by
 induction h with
 | nil => exact .nil
 | cons g _ ih => exact .cons (g.since e) ih
theorem q9u.later {D : Dm} {E : St -> XK} {σ : St} {H H1 : Hp} {Q : Bool -> Hp -> Prop} {r : Rt} (h : q9u D E σ H Q r) (e : Same H H1) : q9u D E σ H1 Q r := by
 cases r with
 | ok b => exact λ H' s => h H' (e.trans s)
 | ex c => exact λ H' C m s => h H' C m (e.trans s)
theorem PE.weak {X : Cx} {e : Expr} {t t' : TE} (h : PE X e t) (k : ∀ σ H Q, t' σ H Q -> t σ H Q) : PE X e t' := λ pins s σ H Q I q => h pins s σ H Q I (k σ H Q q)
theorem PT.weak {X : Cx} {e : Expr} {t t' : TT} (h : PT X e t) (k : ∀ σ H Q, t' σ H Q -> t σ H Q) : PT X e t' := λ pins s σ H Q I q => h pins s σ H Q I (k σ H Q q)
theorem PW.weak {X : Cx} {e : Expr} {t t' : TT} (h : PW X e t) (k : ∀ σ H Q, t' σ H Q -> t σ H Q) : PW X e t' := λ whole pins s σ H Q I q => h whole pins s σ H Q I (k σ H Q q)
theorem PA.weak {X : Cx} {e : List Expr} {t t' : TA} (h : PA X e t) (k : ∀ σ H Q, t' σ H Q -> t σ H Q) : PA X e t' := λ pos pins s σ H Q I q => h pos pins s σ H Q I (k σ H Q q)
theorem PS.weak {X : Cx} {e : Stmt} {t t' : TS} (h : PS X e t) (k : ∀ D σ H, t' D σ H -> t D σ H) : PS X e t' := λ pins s σ H D I q => h pins s σ H D I (k D σ H q)
theorem PSs.weak {X : Cx} {e : List Stmt} {t t' : TS} (h : PSs X e t) (k : ∀ D σ H, t' D σ H -> t D σ H) : PSs X e t' := λ pins s σ H D I q => h pins s σ H D I (k D σ H q)
theorem q4N {X : Cx} {e : Expr} : PW X e (λ _ _ _ => False) := λ _ _ _ _ _ _ _ h => h.elim
theorem q4F {X : Cx} {e : Expr} : PT X e (λ _ _ _ => False) := λ _ _ _ _ _ _ h => h.elim
theorem q1g {X : Cx} {e : Expr} : PE X e (λ _ _ _ => False) := λ _ _ _ _ _ _ h => h.elim
theorem z2x {X : Cx} {e : List Expr} : PA X e (λ _ _ _ => False) := λ _ _ _ _ _ _ _ h => h.elim
end L2
end
section
namespace L2
open PySem PySem.Spec PyProof.Rows
theorem q1s {n : Nat} (h : n <= mostLen) : n <= sizeLine := Nat.le_trans h (by decide)
section
variable {X : Cx} {E : St -> XK} {δ : List Sv} {a b c e : Expr} {es : List Expr}
theorem z0N {r : V -> Hp -> VK -> Prop} {k : DV -> Cl -> Option Re} {ra : Option Re} {re : Re} (hop : ∀ ta, PE X a ta -> PE X e (tUn r ta)) (ha : ∀ q, ra = some q -> PE X a (dE X.D E δ q)) (h : Re.thn ra k = some re)
  (hr : ∀ O W H0 H x Q dx cx σ, k dx cx = some re -> Hid O W H0 H -> Got X.D O W H0 H dx cx x -> Post X.D E σ O W H0 H Q re -> r x H Q) : PE X e (dE X.D E δ re) := by
 cases hra : ra with
 | none => rw [hra] at h; cases h
 | some q =>
  rw [hra] at h
  have A := ha q hra
  cases q with
  | ex c =>
   cases h
   exact (hop _ A).weak λ σ H Q ⟨O, W, R, p⟩ => ⟨O, W, R, p⟩
  | ok dx cx =>
   have h' : k dx cx = some re := h
   exact (hop _ A).weak λ σ H Q ⟨O, W, R, p⟩ => ⟨O, W, R, λ x H1 s1 g1 => hr O W H H1 x Q dx cx σ h' (R.hid.mono s1) g1 (p.step s1)⟩
theorem q6X {r : R2} {k : DV -> Cl -> DV -> Cl -> Option Re} {ra rb : Option Re} {re : Re} (ha : ∀ q, ra = some q -> PE X a (dE X.D E δ q)) (hb : ∀ q, rb = some q -> PE X b (dE X.D E δ q))
  (h : (Re.thn ra λ x cx => Re.thn rb λ y cy => k x cx y cy) = some re)
  (hr : ∀ O W H0 H x y Q dx cx dy cy σ, k dx cx dy cy = some re -> Hid O W H0 H -> Got X.D O W H0 H dx cx x -> Got X.D O W H0 H dy cy y -> Post X.D E σ O W H0 H Q re -> r x y H Q) :
  ∃ ta tb, PE X a ta /\ PE X b tb /\ ∀ σ H Q, dE X.D E δ re σ H Q -> tOp r ta tb σ H Q := by
 cases hra : ra with
 | none => rw [hra] at h; cases h
 | some q =>
  rw [hra] at h
  have A := ha q hra
  cases q with
  | ex c =>
   cases h
   exact ⟨_, _, A, q1g, λ σ H Q ⟨O, W, R, p⟩ => ⟨O, W, R, p⟩⟩
  | ok dx cx =>
   have h' : (Re.thn rb λ y cy => k dx cx y cy) = some re := h
   cases hrb : rb with
   | none => rw [hrb] at h'; cases h'
   | some q =>
    rw [hrb] at h'
    have B := hb q hrb
    cases q with
    | ex c =>
     cases h'
     exact ⟨_, _, A, B, λ σ H Q ⟨O, W, R, p⟩ => ⟨O, W, R, λ x H1 s1 g1 => ⟨O, W, R.mono s1, λ H' C m s => p H' C m (s1.trans s)⟩⟩⟩
    | ok dy cy =>
     have h2 : k dx cx dy cy = some re := h'
     exact ⟨_, _, A, B, λ σ H Q ⟨O, W, R, p⟩ => ⟨O, W, R, λ x H1 s1 g1 => ⟨O, W, R.mono s1, λ y H2 s2 g2 =>
      hr O W H H2 x y Q dx cx dy cy σ h2 ((R.hid.mono s1).mono s2) (g1.mono s2) (g2.since s1) (p.step (s1.trans s2))⟩⟩⟩
theorem q8S {r : R2} {k : DV -> Cl -> DV -> Cl -> Option Re} {ra rb : Option Re} {re : Re} (hop : ∀ ta tb, PE X a ta -> PE X b tb -> PE X e (tOp r ta tb)) (ha : ∀ q, ra = some q -> PE X a (dE X.D E δ q)) (hb : ∀ q, rb = some q -> PE X b (dE X.D E δ q))
  (h : (Re.thn ra λ x cx => Re.thn rb λ y cy => k x cx y cy) = some re)
  (hr : ∀ O W H0 H x y Q dx cx dy cy σ, k dx cx dy cy = some re -> Hid O W H0 H -> Got X.D O W H0 H dx cx x -> Got X.D O W H0 H dy cy y -> Post X.D E σ O W H0 H Q re -> r x y H Q) : PE X e (dE X.D E δ re) := by
 obtain ⟨ta, tb, A, B, q⟩ := q6X ha hb h hr
 exact (hop _ _ A B).weak q
theorem q3E {r : List V -> Hp -> VK -> Prop} {k : List (DV × Cl) -> Option Re} {ra : Option Rs} {re : Re} (hop : ∀ t, PA X es t -> PE X e (tCB r t)) (ha : ∀ q, ra = some q -> PA X es (dA X.D E δ q)) (h : Rs.thn ra k = some re)
  (hr : ∀ O W H0 H vs Q l σ, k l = some re -> Hid O W H0 H -> GotL X.D O W H0 H l vs -> Post X.D E σ O W H0 H Q re -> r vs H Q) : PE X e (dE X.D E δ re) := by
 cases hra : ra with
 | none => rw [hra] at h; cases h
 | some q =>
  rw [hra] at h
  have A := ha q hra
  cases q with
  | ex c =>
   cases h
   exact (hop _ A).weak λ σ H Q ⟨O, W, R, p⟩ => ⟨O, W, R, p⟩
  | ok l =>
   have h' : k l = some re := h
   exact (hop _ A).weak λ σ H Q ⟨O, W, R, p⟩ => ⟨O, W, R, λ vs H1 s1 g1 => hr O W H H1 vs Q l σ h' (R.hid.mono s1) g1 (p.step s1)⟩
end
theorem q6n {D : Dm} {H : Hp} : ∀ {L : List (Addr × List Int)}, (∀ q ∈ L, H q.1 = some (.lst (q.2.map V.int))) -> RepL D H (L.map λ q => .lst (q.2.map DV.int)) (L.map λ q => .ref q.1)
 | [], _ => q0v.mpr rfl
 | q :: L, h => q0j.mpr ⟨_, _, rfl, q0B.mpr ⟨q.1, _, rfl, h q (List.mem_cons_self ..), q2t _⟩, q6n λ q' hq => h q' (List.mem_cons_of_mem _ hq)⟩
section
variable {X : Cx} {E : St -> XK} {δ : List Sv} {pos : Pos}
theorem z2M {i : Nat} {x : Str} {r : Re} (hN : X.N[i]? = some x) (hv : Vis X.env.scope x) (hd : (x == ("__debug__" : Str)) = false) (hcd : (x == ("__classdict__" : Str)) = false)
  (h : (match δ[i]? with | some (.val d) => some (Re.ok d .strong) | some (.own d) => some (.ok d .top) | some (.ot d) => some (.ok d .weak) | some (.o2 d) => some (.ok d .weak) | _ => none) = some r) : PE X (.Name x pos) (dE X.D E δ r) :=
 (q5D hN hv hd hcd).weak λ σ H Q ⟨O, W, R, p⟩ => by
  split at h
  ·rename_i d q
   cases h
   obtain ⟨v, e1, e2⟩ := R.val i d q
   exact ⟨v, e1, p v H (Same.refl H) e2⟩
  ·rename_i d q
   cases h
   obtain ⟨a, xs, ds, e0, e1, e2, e3, e4⟩ := R.own i d q
   subst e0
   refine ⟨.ref a, e1, p _ H (Same.refl H) ⟨a, xs, rfl, e2, ?_, e4⟩⟩
   rw [q0y (R.hid.dj a e2)]
   exact e3
  ·rename_i d q
   cases h
   obtain ⟨⟨t, ts, p1, xs, ds, es, e0, e1, e2, e3, e4, e5, e6, e7⟩, _⟩ := R.ot i d q
   subst e0
   have up : Same (L2.wo (O ++ W) H) (L2.wo O H) := q0O q5u
   refine ⟨.ref t, e1, p _ H (Same.refl H) (q0I.mpr ⟨t, _, rfl, up.tseq e2, q0j.mpr ⟨_, _, rfl, q0B.mpr ⟨p1, xs, rfl, ?_, e5.mono up⟩, e6.mono up⟩⟩ : Rep X.D (L2.wo O H) (.tup (.lst ds :: es)) (.ref t))⟩
   rw [q0y (R.hid.dj p1 e3)]
   exact e4
  ·rename_i d q
   cases h
   obtain ⟨⟨a, L, e0, e1, e2, _⟩, _, _⟩ := R.o2 i d q
   subst e0
   refine ⟨.ref a, e1, p _ H (Same.refl H) (q0B.mpr ⟨a, _, rfl, by rw [q0y (R.hid.dj a e2.1)]; exact e2.2.1, ?_⟩ : Rep X.D (L2.wo O H) (o2D L) (.ref a))⟩
   exact q6n λ q hq => by rw [q0y (R.hid.dj q.1 (e2.2.2.1 q hq).1)]; exact (e2.2.2.1 q hq).2
  ·cases h
theorem z1L {i : Int} {j : Nat} : PE X (.Constant (.int i) j pos) (dE X.D E δ (.ok (.int i) .strong)) := z2Y.weak λ σ H Q ⟨O, W, R, p⟩ => p _ H (Same.refl H) q0K
theorem z3P {i : Bool} {j : Nat} : PE X (.Constant (.bool i) j pos) (dE X.D E δ (.ok (.bl i) .strong)) := z5A.weak λ σ H Q ⟨O, W, R, p⟩ => p _ H (Same.refl H) q2U
theorem z1W {i : Str} {j : Nat} (h : i.length <= sizeLine) : PE X (.Constant (.str i) j pos) (dE X.D E δ (.ok (.str i) .strong)) := z3V.weak λ σ H Q ⟨O, W, R, p⟩ => p _ H (Same.refl H) (q2c.mpr ⟨rfl, h⟩ : Rep X.D (L2.wo (O ++ W) H) (.str i) (.str i))
theorem z1I {j : Nat} : PE X (.Constant .none j pos) (dE X.D E δ (.ok .non .strong)) := z4v.weak λ σ H Q ⟨O, W, R, p⟩ => p _ H (Same.refl H) z2c
end
section
variable {X : Cx} {E : St -> XK} {δ : List Sv} {a b c e : Expr} {pos : Pos} {ra rb : Option Re} {re : Re}
theorem q9o {O W : List Addr} {H0 H : Hp} {C : Int -> Int -> Prop} {g : Int -> Int -> V} {x y : V} {Q : VK} {i j : Int} {ca cb : Cl} {D : Dm} (hd : Hid O W H0 H) (gx : Got D O W H0 H (.int i) ca x) (gy : Got D O W H0 H (.int j) cb y) (hc : C i j) (q : Q (g i j) H) : rI C g x y H Q :=
 ⟨i, j, gx.int hd, gy.int hd, hc, q⟩
theorem q8h {O W : List Addr} {H0 H : Hp} {g : Int -> Int -> V} {x y : V} {Q : VK} {i j : Int} {ca cb : Cl} {D : Dm} (hd : Hid O W H0 H) (gx : Got D O W H0 H (.int i) ca x) (gy : Got D O W H0 H (.int j) cb y) (q : Q (g i j) H) : rI0 g x y H Q :=
 ⟨i, j, gx.int hd, gy.int hd, q⟩
theorem q8w {ca cb : Cl} (h : ca ≠ .weak) (h' : cb ≠ .weak) : Cl.anew ca cb = .fresh := by
 cases ca <;> cases cb <;> first | rfl | exact absurd rfl h | exact absurd rfl h'
noncomputable def q9R (i j : Int) : Prop := CMul i j \/ (i.natAbs < 2 ^ 200 /\ j.natAbs < 2 ^ 200)
theorem q6r {i : Int} (h : i.natAbs < 2 ^ 200) : Builtin.Int.intBits i <= 200 := by
 unfold Builtin.Int.intBits
 by_cases hi : i = 0
 ·subst hi; decide
 ·rw [if_neg (by simpa using hi)]
  have : i.natAbs ≠ 0 := λ z => hi (Int.natAbs_eq_zero.mp z)
  exact (Nat.log2_lt this).mpr h
theorem q9R.ok {i j : Int} (h : q9R i j) : IntMulOk i j := by
 rcases h with h | ⟨h1, h2⟩
 ·exact h.ok
 ·unfold IntMulOk
  have b1 := q6r h1
  have b2 := q6r h2
  have : Builtin.Int.intTooBig ((Builtin.Int.intBits i : Int) + (Builtin.Int.intBits j : Int)) = false := by
   unfold Builtin.Int.intTooBig
   rw [decide_eq_false]
   have : ((bitsLine : Nat) : Int) = 134217728 := by decide
   omega
  rw [this, Bool.and_false]
  exact Bool.false_ne_true
theorem z1F : OpR X (binaryOp .Mult) (rI q9R λ i j => .int (i * j)) := opI λ _ _ _ _ _ _ _ hc q => mul_int q hc.ok
theorem z0m : OpR X (binaryOp .FloorDiv) (rI (λ _ j => 0 < j /\ j < 2 ^ 200) λ i j => .int (i / j)) := opI λ i j _ _ _ _ _ hc q => by
 have h1 : (0 : Int) < j := hc.1
 have h2 : j.natAbs < 2 ^ 200 := by have := hc.2; omega
 refine floordiv_int (by omega) (by rw [Int.fdiv_eq_ediv_of_nonneg i (by omega)]; exact q) (.inl (PyProof.noPylong_of_log2 ?_))
 exact Nat.lt_of_lt_of_le ((Nat.log2_lt (by omega)).mpr h2) (by decide)
theorem z2C : OpR X (binaryOp .Pow) (rI (λ i j => 2 <= i /\ i < 64 /\ 1 <= j /\ j < 64) λ i j => .int (i ^ j.toNat)) := opI λ i j _ _ _ _ _ hc q => by
 obtain ⟨h1, h2, h3, h4⟩ := hc
 refine PySem.AutoIntOps.pow_4 (by omega) (by simp; omega) (by simp; omega) (by simp; omega) ?_ q
 have b1 : Builtin.Int.intBits i <= 200 := q6r (by omega)
 unfold Builtin.Int.intTooBig
 rw [decide_eq_false]
 ·exact Bool.false_ne_true
 ·have : ((bitsLine : Nat) : Int) = 134217728 := by decide
  have : ((Builtin.Int.intBits i : Nat) : Int) * j <= 200 * 64 := Int.mul_le_mul (by omega) (by omega) (by omega) (by omega)
  omega
noncomputable def binR (X : Cx) : Operator -> R2
 | .Add => λ x y H Q => rI0 (λ i j => .int (i + j)) x y H Q \/ rCat x y H Q \/ z4k X.K x y H Q
 | .Sub => rI0 λ i j => .int (i - j)
 | .Mult => λ x y H Q => rI q9R (λ i j => .int (i * j)) x y H Q \/ rRep x y H Q
 | .Mod => rI (λ _ j => 0 < j) λ i j => .int (i % j)
 | .FloorDiv => rI (λ _ j => 0 < j /\ j < 2 ^ 200) λ i j => .int (i / j)
 | .Pow => rI (λ i j => 2 <= i /\ i < 64 /\ 1 <= j /\ j < 64) λ i j => .int (i ^ j.toNat)
 | .RShift => rI (λ _ j => 0 <= j) λ i j => .int (i / 2 ^ j.toNat)
 | .BitAnd => rI0 λ i j => .int (Builtin.bitAnd i j)
 | _ => λ _ _ _ _ => False
theorem z3U {op : Operator} : OpR X (binaryOp op) (binR X op) := by
 cases op with
 | Add => exact z4a.or (z4t.or z1R)
 | Sub => exact z3l
 | Mult => exact z1F.or z2V
 | Mod => exact z3t
 | FloorDiv => exact z0m
 | LShift => exact λ _ _ _ _ _ _ _ _ _ _ _ _ h => h.elim
 | RShift => exact z4z
 | BitAnd => exact z4G
 | BitOr => exact λ _ _ _ _ _ _ _ _ _ _ _ _ h => h.elim
 | BitXor => exact λ _ _ _ _ _ _ _ _ _ _ _ _ h => h.elim
 | MatMult => exact λ _ _ _ _ _ _ _ _ _ _ _ _ h => h.elim
 | Div => exact λ _ _ _ _ _ _ _ _ _ _ _ _ h => h.elim
 | Pow => exact z2C
theorem z4x {O W : List Addr} {H0 H : Hp} {op : Operator} {x y : V} {dx dy : DV} {cx cy : Cl} {Q : VK} {σ : St} (h : binD op dx dy cx cy = some re) (hd : Hid O W H0 H) (gx : Got X.D O W H0 H dx cx x) (gy : Got X.D O W H0 H dy cy y)
  (p : Post X.D E σ O W H0 H Q re) : binR X op x y H Q := by
 unfold binD at h
 split at h
 ·cases h; exact .inl (q8h hd gx gy (p _ H (Same.refl H) q0K))
 ·cases h; exact q8h hd gx gy (p _ H (Same.refl H) q0K)
 ·split at h
  ·rename_i m
   cases h
   refine .inl (q9o hd gx gy ?_ (p _ H (Same.refl H) q0K))
   unfold q2l at m
   simp only [Bool.or_eq_true, Bool.and_eq_true, decide_eq_true_eq] at m
   exact m
  ·cases h
 ·split at h
  ·rename_i m; cases h; exact q9o hd gx gy m (p _ H (Same.refl H) q0K)
  ·cases h
 ·split at h
  ·rename_i m; cases h; exact q9o hd gx gy m (p _ H (Same.refl H) q0K)
  ·cases h
 ·split at h
  ·rename_i m; cases h; exact q9o hd gx gy m (p _ H (Same.refl H) q0K)
  ·cases h
 ·split at h
  ·rename_i m; cases h; exact q9o hd gx gy m (p _ H (Same.refl H) q0K)
  ·cases h
 ·cases h; exact q8h hd gx gy (p _ H (Same.refl H) q0K)
 ·rename_i xs ys
  split at h
  ·rename_i m
   cases h
   by_cases hw : cx ≠ .weak /\ cy ≠ .weak
   ·obtain ⟨l1, v1, e1, k1, r1⟩ := gx.items hd hw.1
    obtain ⟨l2, v2, e2, k2, r2⟩ := gy.items hd hw.2
    refine .inr (.inl ⟨l1, l2, v1, v2, e1, e2, k1, k2, by rw [r1.length, r2.length]; exact q1s m, λ q hq => p _ _ (q0q hq) ?_⟩)
    rw [q8w hw.1 hw.2]
    exact q2k hd hq (r1.append r2)
   ·obtain ⟨l1, v1, e1, k1, r1⟩ := gx.lst hd
    obtain ⟨l2, v2, e2, k2, r2⟩ := gy.lst hd
    refine .inr (.inl ⟨l1, l2, v1, v2, e1, e2, k1, k2, by rw [r1.length, r2.length]; exact q1s m, λ q hq => p _ _ (q0q hq) ?_⟩)
    have : Cl.anew cx cy = .weak := by
     cases cx <;> cases cy <;> first | rfl | exact absurd ⟨(by intro z; cases z), (by intro z; cases z)⟩ hw
    rw [this]
    exact q4I hd hq (r1.append r2)
  ·cases h
 ·rename_i xs ys
  split at h
  ·rename_i m
   cases h
   by_cases hw : cx ≠ .weak /\ cy ≠ .weak
   ·obtain ⟨l1, v1, e1, k1, r1⟩ := gx.itemsT hd hw.1
    obtain ⟨l2, v2, e2, k2, r2⟩ := gy.itemsT hd hw.2
    have cl : (Cl.anew cx cy).notF = .strong := by rw [q8w hw.1 hw.2]; rfl
    rw [cl] at p
    refine .inr (.inr ⟨l1, l2, v1, v2, e1, e2, k1, k2, λ z => m.2 (by have := r1.length; rw [z] at this; exact List.length_eq_zero_iff.mp this.symm), by rw [r1.length, r2.length]; exact q1s m.1, λ z => ?_, λ _ q hq => p _ _ (q0q hq) (q3g hd hq (r1.append r2))⟩)
    refine p _ _ (Same.refl _) ?_
    have z2 : ys = [] := by have := r2.length; rw [z] at this; exact List.length_eq_zero_iff.mp this.symm
    subst z2
    rw [List.append_nil]
    cases cx with
    | weak => exact absurd rfl hw.1
    | top => rw [← e1]; exact gx
    | strong => rw [← e1]; exact gx
    | fresh => obtain ⟨_, _, _, _, q, _⟩ := gx; cases q
    | ft => rw [← e1]; exact gx.ft hd
   ·obtain ⟨l1, v1, e1, k1, r1⟩ := gx.tup hd
    obtain ⟨l2, v2, e2, k2, r2⟩ := gy.tup hd
    have cl : (Cl.anew cx cy).notF = .weak := by
     cases cx <;> cases cy <;> first | rfl | exact absurd ⟨(by intro z; cases z), (by intro z; cases z)⟩ hw
    rw [cl] at p
    refine .inr (.inr ⟨l1, l2, v1, v2, e1, e2, k1, k2, λ z => m.2 (by have := r1.length; rw [z] at this; exact List.length_eq_zero_iff.mp this.symm), by rw [r1.length, r2.length]; exact q1s m.1, λ z => ?_, λ _ q hq => p _ _ (q0q hq) (q4T hd hq (r1.append r2))⟩)
    refine p _ _ (Same.refl _) ?_
    have z2 : ys = [] := by have := r2.length; rw [z] at this; exact List.length_eq_zero_iff.mp this.symm
    subst z2
    rw [List.append_nil, ← e1]
    exact gx.weak hd
  ·cases h
 ·rename_i xs k
  split at h
  ·rename_i m
   cases h
   obtain ⟨l1, v1, e1, k1, r1⟩ := gx.lstC hd
   refine .inr ⟨l1, k, v1, e1, gy.int hd, k1, m.2.1, m.2.2, by rw [r1.length]; exact q1s m.1, λ q hq => p _ _ (q0q hq) (q3D hd hq (r1.rep _))⟩
  ·cases h
 ·cases h
theorem z2J {op : Operator} (ha : ∀ q, ra = some q -> PE X a (dE X.D E δ q)) (hb : ∀ q, rb = some q -> PE X b (dE X.D E δ q)) (h : (Re.thn ra λ x cx => Re.thn rb λ y cy => binD op x y cx cy) = some re) : PE X (.BinOp a op b pos) (dE X.D E δ re) :=
 q8S (λ _ _ => z5T z3U) ha hb h λ O W H0 H x y Q dx cx dy cy σ k hd gx gy p => z4x k hd gx gy p
theorem z1h (ha : ∀ q, ra = some q -> PE X a (dE X.D E δ q)) (h : (Re.thn ra λ x _ => match x with | .int i => some (.ok (.int (-i)) .strong) | _ => none) = some re) : PE X (.UnaryOp .USub a pos) (dE X.D E δ re) :=
 z0N (λ _ => z4W z3g) ha h λ O W H0 H x Q dx cx σ k hd gx p => by
  split at k
  ·cases k; exact ⟨_, gx.int hd, p _ H (Same.refl H) q0K⟩
  ·cases k
theorem z3H {ds : List DV} {i : Int} : atD ds i = L2.atI ds i := rfl
theorem RepL.atI {D : Dm} {H : Hp} {ds : List DV} {xs : List V} {i : Int} {d : DV} (h : RepL D H ds xs) (e : atD ds i = some d) : ∃ v, L2.atI xs i = some v /\ Rep D H d v := by
 rw [z3H] at e
 unfold L2.atI at e ⊢
 rw [h.length]
 cases q : ixN ds.length i with
 | none => rw [q] at e; cases e
 | some j =>
  rw [q] at e
  exact h.get e
theorem z5p {O W : List Addr} {H0 H : Hp} {x y : V} {dx dy : DV} {cx cy : Cl} {Q : VK} {σ : St} (h : ((ixD dx dy).map λ d => Re.ok d cx.item) = some re) (hd : Hid O W H0 H) (gx : Got X.D O W H0 H dx cx x) (gy : Got X.D O W H0 H dy cy y)
  (p : Post X.D E σ O W H0 H Q re) : rIx X.K x y H Q := by
 obtain ⟨d, h1, h2⟩ := Option.map_eq_some_iff.mp h
 cases h2
 unfold ixD at h1
 split at h1
 ·rename_i ns i
  obtain ⟨a, e1, e2⟩ := q1S.mp (gx.all hd)
  obtain ⟨n, h3, h4⟩ := Option.map_eq_some_iff.mp h1
  cases h4
  have q : L2.atI (ns.map V.int) i = some (.int n) := by
   unfold L2.atI
   rw [List.length_map]
   have h3' : ((ixN ns.length i).bind λ j => ns[j]?) = some n := h3
   cases z : ixN ns.length i with
   | none => rw [z] at h3'; cases h3'
   | some j =>
    rw [z] at h3'
    have h5 : ns[j]? = some n := h3'
    show (ns.map V.int)[j]? = _
    rw [List.getElem?_map, h5]; rfl
  refine .inl ⟨a, _, i, _, e1, gy.int hd, e2.sq, q, p _ H (Same.refl H) ?_⟩
  cases cx <;> exact q0K
 ·obtain ⟨a, xs, e1, e2, e3⟩ := gx.lstC hd
  obtain ⟨v, q1, q2⟩ := e3.atI h1
  exact .inl ⟨a, xs, _, v, e1, gy.int hd, SqL.of e2, q1, p _ H (Same.refl H) (Got.item q2)⟩
 ·obtain ⟨a, xs, e1, e2, e3⟩ := gx.tupC hd
  obtain ⟨v, q1, q2⟩ := e3.atI h1
  exact .inr (.inl ⟨a, xs, _, v, e1, gy.int hd, e2, q1, p _ H (Same.refl H) (Got.item q2)⟩)
 ·rename_i z i
  obtain ⟨e1, e2⟩ := gx.str hd
  cases q : q1v z.cps.size i with
  | none => rw [q] at h1; cases h1
  | some j =>
   rw [q] at h1
   obtain ⟨ch, h3, h4⟩ := Option.map_eq_some_iff.mp (show ((z.cps[j]?).map λ c => DV.str ⟨#[c]⟩) = some d from h1)
   cases h4
   refine .inr (.inr ⟨z, i, ch, e1, gy.int hd, e2, ?_, p _ H (Same.refl H) ?_⟩)
   ·unfold L2.atI
    have : ixN z.cps.toList.length i = some j := by rw [Array.length_toList]; exact q
    rw [this]
    show z.cps.toList[j]? = some ch
    rw [Array.getElem?_toList]; exact h3
   ·have one : Rep X.D (L2.wo (O ++ W) H) (.str ⟨#[ch]⟩) (.str ⟨#[ch]⟩) := q2c.mpr ⟨rfl, by show (1 : Nat) <= sizeLine; decide⟩
    have one' : Rep X.D (L2.wo O H) (.str ⟨#[ch]⟩) (.str ⟨#[ch]⟩) := q2c.mpr ⟨rfl, by show (1 : Nat) <= sizeLine; decide⟩
    cases cx <;> first | exact one | exact one'
 ·cases h1
theorem z4l (ha : ∀ q, ra = some q -> PE X a (dE X.D E δ q)) (hb : ∀ q, rb = some q -> PE X b (dE X.D E δ q)) (hs : q4S b = false) (h : (Re.thn ra λ x cx => Re.thn rb λ y _ => (ixD x y).map λ d => .ok d cx.item) = some re) : PE X (.Subscript a b pos) (dE X.D E δ re) :=
 q8S (λ _ _ h1 h2 => z4V z3k h1 h2 (by cases b <;> first | (intro _ _; rfl) | cases hs)) ha hb h λ O W H0 H x y Q dx cx dy cy σ k hd gx gy p => z5p k hd gx gy p
theorem q5e (n d : Nat) (o : Option Int) : slIx n d o = HT.sIx n d o := by cases o <;> rfl
theorem RepL.cut {D : Dm} {H : Hp} {ds : List DV} {xs : List V} (h : RepL D H ds xs) (lo hi : Option Int) : RepL D H (cutD ds lo hi) (cutV xs lo hi) := by
 unfold cutD cutV
 rw [q5e, q5e, ← h.length]
 exact (h.drop _).take _
theorem z1m {O W : List Addr} {H0 H : Hp} {x : V} {dx : DV} {cx : Cl} {Q : VK} {σ : St} {lo hi : Option Int} (h : ((slD dx lo hi).map λ d => Re.ok d (slCl dx cx)) = some re) (hd : Hid O W H0 H) (gx : Got X.D O W H0 H dx cx x)
  (p : Post X.D E σ O W H0 H Q re) : rSlL X.K x lo hi H Q \/ rSlT X.K x lo hi H Q := by
 obtain ⟨d, h1, h2⟩ := Option.map_eq_some_iff.mp h
 cases h2
 unfold slD at h1
 split at h1
 ·rename_i ns
  cases h1
  obtain ⟨a, e1, e2⟩ := q1S.mp (gx.all hd)
  exact .inl ⟨a, _, e1, e2.sq, λ q hq => p _ _ (q0q hq) (q2k hd hq ((q2t ns).cut lo hi))⟩
 ·cases h1
  obtain ⟨a, xs, e1, e2, e3⟩ := gx.lstC hd
  exact .inl ⟨a, xs, e1, SqL.of e2, λ q hq => p _ _ (q0q hq) (q3D hd hq (e3.cut lo hi))⟩
 ·rename_i ds
  split at h1
  ·cases h1
  ·rename_i m
   cases h1
   obtain ⟨a, xs, e1, e2, e3⟩ := gx.tupC hd
   refine .inr ⟨a, xs, e1, e2, ?_, λ q hq => p _ _ (q0q hq) (q6Y hd hq (e3.cut lo hi))⟩
   rw [q5e, q5e, ← e3.length] at m
   exact m
 ·cases h1
theorem q2E : SlR X (λ x lo hi H Q => rSlL X.K x lo hi H Q \/ rSlT X.K x lo hi H Q) := z2F.or z4e
theorem q5C {i : Int} {cl : Cl} (h : PE X b (dE X.D E δ (.ok (.int i) cl))) : PO X (some b) (λ σ H Q => ∃ O W, RSt X.D H σ δ O W /\ ∀ H', Same H H' -> Q (some i) H') := λ pins s σ H Q I ⟨O, W, R, p⟩ =>
 q8p h pins s σ H Q I ⟨O, W, R, λ v H' s1 g => ⟨i, g.int (R.hid.mono s1), p H' s1⟩⟩
theorem q9A {c : Str} (h : PE X b (dE X.D E δ (.ex c))) : PO X (some b) (λ σ H Q => ∃ O W, RSt X.D H σ δ O W /\ Post X.D E σ O W H H (λ _ _ => False) (.ex c)) := λ pins s σ H Q I ⟨O, W, R, p⟩ =>
 q8p h pins s σ H Q I ⟨O, W, R, p⟩
theorem q2V {o : Option Expr} : PO X o (λ _ _ _ => False) := λ _ _ _ _ _ _ h => h.elim
theorem z1N {p2 : Pos} (ha : ∀ q, ra = some q -> PE X a (dE X.D E δ q)) (hb : ∀ q, rb = some q -> PE X b (dE X.D E δ q)) (h : (Re.thn ra λ x cx => Re.thn rb λ l _ => match l with
  | .int l => (slD x (some l) none).map λ d => .ok d (slCl x cx) | _ => none) = some re) : PE X (.Subscript a (.Slice (some b) none none p2) pos) (dE X.D E δ re) := by
 cases hra : ra with
 | none => rw [hra] at h; cases h
 | some q =>
  rw [hra] at h
  have A := ha q hra
  cases q with
  | ex c => cases h; exact (q1t q2E A q2V q3h).weak λ σ H Q ⟨O, W, R, p⟩ => ⟨O, W, R, p⟩
  | ok dx cx =>
   cases hrb : rb with
   | none => rw [hrb] at h; cases h
   | some q =>
    rw [hrb] at h
    have B := hb q hrb
    cases q with
    | ex c => cases h; exact (q1t q2E A (q9A B) q3h).weak λ σ H Q ⟨O, W, R, p⟩ => ⟨O, W, R, λ x H1 s1 g1 => ⟨O, W, R.mono s1, λ H' C m s => p H' C m (s1.trans s)⟩⟩
    | ok dy cy =>
     have h' : (match (generalizing := false) dy with | .int l => (slD dx (some l) none).map λ d => Re.ok d (slCl dx cx) | _ => none) = some re := h
     split at h'
     ·rename_i l
      exact (q1t q2E A (q5C B) q3h).weak λ σ H Q ⟨O, W, R, p⟩ => ⟨O, W, R, λ x H1 s1 g1 => ⟨O, W, R.mono s1, λ H2 s2 => z1m h' ((R.hid.mono s1).mono s2) (g1.mono s2) (p.step (s1.trans s2))⟩⟩
     ·cases h'
theorem z1q {p2 : Pos} (ha : ∀ q, ra = some q -> PE X a (dE X.D E δ q)) (hb : ∀ q, rb = some q -> PE X b (dE X.D E δ q)) (h : (Re.thn ra λ x cx => Re.thn rb λ l _ => match l with
  | .int l => (slD x none (some l)).map λ d => .ok d (slCl x cx) | _ => none) = some re) : PE X (.Subscript a (.Slice none (some b) none p2) pos) (dE X.D E δ re) := by
 cases hra : ra with
 | none => rw [hra] at h; cases h
 | some q =>
  rw [hra] at h
  have A := ha q hra
  cases q with
  | ex c => cases h; exact (q1t q2E A q3h q2V).weak λ σ H Q ⟨O, W, R, p⟩ => ⟨O, W, R, p⟩
  | ok dx cx =>
   cases hrb : rb with
   | none => rw [hrb] at h; cases h
   | some q =>
    rw [hrb] at h
    have B := hb q hrb
    cases q with
    | ex c => cases h; exact (q1t q2E A q3h (q9A B)).weak λ σ H Q ⟨O, W, R, p⟩ => ⟨O, W, R, λ x H1 s1 g1 => ⟨O, W, R.mono s1, λ H' C m s => p H' C m (s1.trans s)⟩⟩
    | ok dy cy =>
     have h' : (match (generalizing := false) dy with | .int l => (slD dx none (some l)).map λ d => Re.ok d (slCl dx cx) | _ => none) = some re := h
     split at h'
     ·rename_i l
      exact (q1t q2E A q3h (q5C B)).weak λ σ H Q ⟨O, W, R, p⟩ => ⟨O, W, R, λ x H1 s1 g1 => ⟨O, W, R.mono s1, λ H2 s2 => z1m h' ((R.hid.mono s1).mono s2) (g1.mono s2) (p.step (s1.trans s2))⟩⟩
     ·cases h'
theorem z4F {p2 : Pos} {rc : Option Re} (ha : ∀ q, ra = some q -> PE X a (dE X.D E δ q)) (hb : ∀ q, rb = some q -> PE X b (dE X.D E δ q)) (hc : ∀ q, rc = some q -> PE X c (dE X.D E δ q)) (h : (Re.thn ra λ x cx => Re.thn rb λ l _ => match l with
  | .int l => Re.thn rc λ u _ => (match u with
   | .int u => (slD x (some l) (some u)).map λ d => .ok d (slCl x cx) | _ => none) | _ => none) = some re) : PE X (.Subscript a (.Slice (some b) (some c) none p2) pos) (dE X.D E δ re) := by
 cases hra : ra with
 | none => rw [hra] at h; cases h
 | some q =>
  rw [hra] at h
  have A := ha q hra
  cases q with
  | ex c => cases h; exact (q1t q2E A q2V q2V).weak λ σ H Q ⟨O, W, R, p⟩ => ⟨O, W, R, p⟩
  | ok dx cx =>
   cases hrb : rb with
   | none => rw [hrb] at h; cases h
   | some q =>
    rw [hrb] at h
    have B := hb q hrb
    cases q with
    | ex c => cases h; exact (q1t q2E A (q9A B) q2V).weak λ σ H Q ⟨O, W, R, p⟩ => ⟨O, W, R, λ x H1 s1 g1 => ⟨O, W, R.mono s1, λ H' C m s => p H' C m (s1.trans s)⟩⟩
    | ok dy cy =>
     have h' : (match (generalizing := false) dy with | .int l => Re.thn rc λ u _ => (match u with | .int u => (slD dx (some l) (some u)).map λ d => Re.ok d (slCl dx cx) | _ => none) | _ => none) = some re := h
     split at h'
     ·rename_i l
      cases hrc : rc with
      | none => rw [hrc] at h'; cases h'
      | some q =>
       rw [hrc] at h'
       have C := hc q hrc
       cases q with
       | ex c' =>
        cases h'
        exact (q1t q2E A (q5C B) (q9A C)).weak λ σ H Q ⟨O, W, R, p⟩ => ⟨O, W, R, λ x H1 s1 g1 => ⟨O, W, R.mono s1, λ H2 s2 => ⟨O, W, (R.mono s1).mono s2, λ H' C m s => p H' C m (s1.trans (s2.trans s))⟩⟩⟩
       | ok dz cz =>
        have h2 : (match (generalizing := false) dz with | .int u => (slD dx (some l) (some u)).map λ d => Re.ok d (slCl dx cx) | _ => none) = some re := h'
        split at h2
        ·rename_i u
         exact (q1t q2E A (q5C B) (q5C C)).weak λ σ H Q ⟨O, W, R, p⟩ => ⟨O, W, R, λ x H1 s1 g1 => ⟨O, W, R.mono s1, λ H2 s2 => ⟨O, W, (R.mono s1).mono s2, λ H3 s3 => z1m h2 (((R.hid.mono s1).mono s2).mono s3) ((g1.mono s2).mono s3) (p.step (s1.trans (s2.trans s3)))⟩⟩⟩
        ·cases h2
     ·cases h'
end
end L2
end
section
namespace L2
open PySem PySem.Spec PyProof.Rows
mutual
noncomputable def toP : DV -> PyData
 | .non => .none | .bl b => .bool b | .int i => .int i | .str x => .str x
 | .tup ds => .tuple (toPs ds) | .lst ds => .list (toPs ds)
 | _ => .none
noncomputable def toPs : List DV -> List PyData
 | [] => []
 | d :: r => toP d :: toPs r
end
mutual
theorem q6j : ∀ (n m : Nat) (d e : DV), d.plain n = true -> e.plain m = true -> PyData.eqv (toP d) (toP e) = deq d e
 | n, m, .non, e, _, h => by cases e <;> first | (cases m <;> simp [DV.plain] at h; done) | (simp only [toP, PyData.eqv, deq])
 | n, m, .bl _, e, _, h => by cases e <;> first | (cases m <;> simp [DV.plain] at h; done) | (simp only [toP, PyData.eqv, deq])
 | n, m, .int _, e, _, h => by cases e <;> first | (cases m <;> simp [DV.plain] at h; done) | (simp only [toP, PyData.eqv, deq])
 | n, m, .str x, e, _, h => by
  cases e with
  | str y => simp only [toP, PyData.eqv, deq]; rfl
  | non => simp only [toP, PyData.eqv, deq]
  | bl _ => simp only [toP, PyData.eqv, deq]
  | int _ => simp only [toP, PyData.eqv, deq]
  | tup _ => simp only [toP, PyData.eqv, deq]
  | lst _ => simp only [toP, PyData.eqv, deq]
  | dct _ _ => cases m <;> simp [DV.plain] at h
  | exc _ => cases m <;> simp [DV.plain] at h
  | fn _ => cases m <;> simp [DV.plain] at h
  | scr _ => cases m <;> simp [DV.plain] at h
 | 0, _, .tup _, _, h, _ => by simp [DV.plain] at h
 | 0, _, .lst _, _, h, _ => by simp [DV.plain] at h
 | n + 1, m, .tup ds, e, h, h' => by
  cases e with
  | tup es =>
   cases m with
   | zero => simp [DV.plain] at h'
   | succ m =>
    simp only [toP, PyData.eqv, deq]
    exact q4O n m ds es (by simpa [DV.plain] using h) (by simpa [DV.plain] using h')
  | non => simp only [toP, PyData.eqv, deq]
  | bl _ => simp only [toP, PyData.eqv, deq]
  | int _ => simp only [toP, PyData.eqv, deq]
  | str _ => simp only [toP, PyData.eqv, deq]
  | lst _ => simp only [toP, PyData.eqv, deq]
  | dct _ _ => cases m <;> simp [DV.plain] at h'
  | exc _ => cases m <;> simp [DV.plain] at h'
  | fn _ => cases m <;> simp [DV.plain] at h'
  | scr _ => cases m <;> simp [DV.plain] at h'
 | n + 1, m, .lst ds, e, h, h' => by
  cases e with
  | lst es =>
   cases m with
   | zero => simp [DV.plain] at h'
   | succ m =>
    simp only [toP, PyData.eqv, deq]
    exact q4O n m ds es (by simpa [DV.plain] using h) (by simpa [DV.plain] using h')
  | non => simp only [toP, PyData.eqv, deq]
  | bl _ => simp only [toP, PyData.eqv, deq]
  | int _ => simp only [toP, PyData.eqv, deq]
  | str _ => simp only [toP, PyData.eqv, deq]
  | tup _ => simp only [toP, PyData.eqv, deq]
  | dct _ _ => cases m <;> simp [DV.plain] at h'
  | exc _ => cases m <;> simp [DV.plain] at h'
  | fn _ => cases m <;> simp [DV.plain] at h'
  | scr _ => cases m <;> simp [DV.plain] at h'
 | n, _, .dct _ _, _, h, _ => by cases n <;> simp [DV.plain] at h
 | n, _, .exc _, _, h, _ => by cases n <;> simp [DV.plain] at h
 | n, _, .fn _, _, h, _ => by cases n <;> simp [DV.plain] at h
 | n, _, .scr _, _, h, _ => by cases n <;> simp [DV.plain] at h
theorem q4O : ∀ (n m : Nat) (ds es : List DV), DV.plains n ds = true -> DV.plains m es = true -> PyData.eqvAll (toPs ds) (toPs es) = deqs ds es
 | _, _, [], [], _, _ => by simp only [toPs, PyData.eqvAll, deqs]
 | _, _, [], _ :: _, _, _ => by simp only [toPs, PyData.eqvAll, deqs]
 | _, _, _ :: _, [], _, _ => by simp only [toPs, PyData.eqvAll, deqs]
 | n, m, d :: ds, e :: es, h, h' => by
  simp only [DV.plains, Bool.and_eq_true] at h h'
  simp only [toPs, PyData.eqvAll, deqs, q6j n m d e h.1 h'.1, q4O n m ds es h.2 h'.2]
end
mutual
theorem q8d : ∀ (n : Nat) (d : DV), d.plain n = true -> (toP d).canLay0 = true /\ (toP d).depth <= n
 | n, .non, _ => by simp [toP, PyData.canLay0, PyData.depth]
 | n, .bl _, _ => by simp [toP, PyData.canLay0, PyData.depth]
 | n, .int _, _ => by simp [toP, PyData.canLay0, PyData.depth]
 | n, .str x, h => by
  have h' : (x.cps.all (· < 0x110000)) = true := by cases n <;> simpa [DV.plain] using h
  simp only [toP, PyData.canLay0, PyData.depth]
  exact ⟨h', Nat.zero_le _⟩
 | 0, .tup _, h => by simp [DV.plain] at h
 | 0, .lst _, h => by simp [DV.plain] at h
 | n + 1, .tup ds, h => by
  have q := q4M n ds (by simpa [DV.plain] using h)
  simp only [toP, PyData.canLay0, PyData.depth, q.1, true_and]
  have := q.2
  omega
 | n + 1, .lst ds, h => by
  have q := q4M n ds (by simpa [DV.plain] using h)
  simp only [toP, PyData.canLay0, PyData.depth, q.1, true_and]
  have := q.2
  omega
 | n, .dct _ _, h => by cases n <;> simp [DV.plain] at h
 | n, .exc _, h => by cases n <;> simp [DV.plain] at h
 | n, .fn _, h => by cases n <;> simp [DV.plain] at h
 | n, .scr _, h => by cases n <;> simp [DV.plain] at h
theorem q4M : ∀ (n : Nat) (ds : List DV), DV.plains n ds = true -> PyData.canLayAll0 (toPs ds) = true /\ PyData.depthAll (toPs ds) <= n
 | _, [], _ => by simp [toPs, PyData.canLayAll0, PyData.depthAll]
 | n, d :: ds, h => by
  simp only [DV.plains, Bool.and_eq_true] at h
  have q := q8d n d h.1
  have q' := q4M n ds h.2
  simp only [toPs, PyData.canLayAll0, PyData.depthAll, q.1, q'.1, Bool.and_self, true_and]
  have a := q.2
  have b := q'.2
  omega
end
section
variable {X : Cx} {pins : List (Addr × Obj)} {σ : St} {H : Hp} {s : Shared}
mutual
theorem q2R (I : Inv X pins σ H s) : ∀ (n : Nat) {d : DV} {v : V} {u : Value}, d.plain n = true -> Rep X.D H d v -> RelV v u -> ∃ as, Reads s.heap u (toP d) as
 | _, .non, _, _, _, h, r => by rw [q2L.mp h] at r; cases r; exact ⟨_, Reads.none⟩
 | _, .bl b, _, _, _, h, r => by rw [q3n.mp h] at r; cases r; exact ⟨_, Reads.bool b⟩
 | _, .int i, _, _, _, h, r => by rw [q0J.mp h] at r; obtain ⟨t, rfl⟩ := r; exact ⟨_, Reads.int i t⟩
 | _, .str x, _, _, _, h, r => by rw [(q2c.mp h).1] at r; obtain ⟨t, rfl⟩ := r; exact ⟨_, Reads.str x t⟩
 | 0, .tup _, _, _, p, _, _ => by simp [DV.plain] at p
 | 0, .lst _, _, _, p, _, _ => by simp [DV.plain] at p
 | n + 1, .tup ds, _, _, p, h, r => by
  obtain ⟨a, xs, e1, e2, e3⟩ := q0I.mp h
  rw [e1] at r; cases r
  obtain ⟨its, rv, ⟨o, h1, h2, k, h3⟩, _⟩ := I.tuple e2
  obtain ⟨as, q⟩ := q4c I n (by simpa [DV.plain] using p) e3 rv
  rw [toP]
  exact ⟨as, Reads.tuple h1 h2 h3 (by simpa using q)⟩
 | n + 1, .lst ds, _, _, p, h, r => by
  obtain ⟨a, xs, e1, e2, e3⟩ := q0B.mp h
  rw [e1] at r; cases r
  obtain ⟨_, its, k, rv, _, h1⟩ := I.lstM e2
  obtain ⟨as, q⟩ := q4c I n (by simpa [DV.plain] using p) e3 rv
  rw [toP]
  exact ⟨_, Reads.list h1 rfl rfl (by simpa using q)⟩
 | n, .dct _ _, _, _, h, _, _ => by cases n <;> simp [DV.plain] at h
 | n, .exc _, _, _, h, _, _ => by cases n <;> simp [DV.plain] at h
 | n, .fn _, _, _, h, _, _ => by cases n <;> simp [DV.plain] at h
 | n, .scr _, _, _, h, _, _ => by cases n <;> simp [DV.plain] at h
theorem q4c (I : Inv X pins σ H s) : ∀ (n : Nat) {ds : List DV} {vs : List V} {us : List Value}, DV.plains n ds = true -> RepL X.D H ds vs -> Vals vs us -> ∃ as, ReadsAll s.heap us (toPs ds) as
 | _, [], _, _, _, h, r => by rw [q0v.mp h] at r; cases r; exact ⟨_, ReadsAll.nil⟩
 | n, d :: ds, _, _, p, h, r => by
  simp only [DV.plains, Bool.and_eq_true] at p
  obtain ⟨v, vs, e1, e2, e3⟩ := q0j.mp h
  subst e1
  cases r with
  | cons r1 r2 =>
   obtain ⟨as, q⟩ := q2R I n p.1 e2 r1
   obtain ⟨bs, q'⟩ := q4c I n p.2 e3 r2
   rw [toPs]
   exact ⟨_, ReadsAll.cons q q'⟩
end
theorem q3a {d : DV} (h : d.plain 60 = true) : SeqAt.shaped (toP d) = true := by
 have q := q8d 60 d h
 unfold SeqAt.shaped
 rw [q.1, Bool.true_and]
 exact decide_eq_true (Nat.le_trans q.2 (by decide))
end
section
variable {X : Cx} {E : St -> XK} {δ : List Sv} {a b c e : Expr} {pos : Pos} {ra rb rc : Option Re} {re : Re}
noncomputable def cmpR (X : Cx) (op : CmpOp) : R2 := λ x y H Q => ∃ dx dy k, cmpD op dx dy = some k /\ Rep X.D H dx x /\ Rep X.D H dy y /\ Q (.bl k) H
theorem z3i {D : Dm} {H : Hp} {d : DV} {v : V} (r : Rep D H d v) : decide (v = .non) = isN d := by
 cases d with
 | non => rw [q2L.mp r]; rfl
 | bl _ => rw [q3n.mp r]; rfl
 | int _ => rw [q0J.mp r]; rfl
 | str _ => rw [(q2c.mp r).1]; rfl
 | tup _ => obtain ⟨a, xs, e, _⟩ := q0I.mp r; rw [e]; rfl
 | lst _ => obtain ⟨a, xs, e, _⟩ := q0B.mp r; rw [e]; rfl
 | exc _ => obtain ⟨a, C, e, _⟩ := q6k.mp r; rw [e]; rfl
 | fn _ => obtain ⟨a, e, _⟩ := z3I.mp r; rw [e]; rfl
 | scr _ => obtain ⟨a, e, _⟩ := q1S.mp r; rw [e]; rfl
 | dct _ _ => obtain ⟨a, kvs, e, _⟩ := q5X.mp r; rw [e]; rfl
theorem q4o {op : CmpOp} (hu : X.A.units + 64 < cLine) : OpR X (compareOp op) (cmpR X op) := by
 intro pins s σ H x y v u Q I rx ry h
 obtain ⟨dx, dy, k, hk, r1, r2, q⟩ := h
 have fin : ∀ {k' : Bool}, k' = k -> EP X pins σ Q (.bool k') s := λ {k'} e => ⟨.bl k', H, I, rfl, by rw [e]; exact q⟩
 unfold cmpD at hk
 split at hk
 ·cases hk; exact z5m pins s σ H x y v u Q I rx ry ⟨_, _, q0J.mp r1, q0J.mp r2, q⟩
 ·cases hk; exact z6a pins s σ H x y v u Q I rx ry ⟨_, _, q0J.mp r1, q0J.mp r2, q⟩
 ·cases hk; exact z5N pins s σ H x y v u Q I rx ry ⟨_, _, q0J.mp r1, q0J.mp r2, q⟩
 ·split at hk
  ·rename_i p
   rw [Bool.and_eq_true] at p
   cases hk
   obtain ⟨as, q1⟩ := q2R I 60 p.1 r1 rx
   obtain ⟨bs, q2⟩ := q2R I 60 p.2 r2 ry
   exact eq_dataH q1 q2 (q3a p.1) (q3a p.2) hu (fin (q6j 60 60 _ _ p.1 p.2))
  ·cases hk
 ·split at hk
  ·rename_i p
   rw [Bool.and_eq_true] at p
   cases hk
   obtain ⟨as, q1⟩ := q2R I 60 p.1 r1 rx
   obtain ⟨bs, q2⟩ := q2R I 60 p.2 r2 ry
   exact ne_dataH q1 q2 (q3a p.1) (q3a p.2) hu (fin (by rw [q6j 60 60 _ _ p.1 p.2]))
  ·cases hk
 ·cases hk; exact z3K pins s σ H x y v u Q I rx ry ⟨q2L.mp r2, by rw [z3i r1]; exact q⟩
 ·cases hk
theorem q3N {op : CmpOp} {b : Expr} (h : q2B b = false) : behindInMarks op b = false := by
 cases b <;> first | rfl | cases h
theorem z2h {op : CmpOp} (hu : X.A.units + 64 < cLine) (ha : ∀ q, ra = some q -> PE X a (dE X.D E δ q)) (hb : ∀ q, rb = some q -> PE X b (dE X.D E δ q)) (hs : q2B b = false)
  (h : (Re.thn ra λ x _ => Re.thn rb λ y _ => (cmpD op x y).map λ k => .ok (.bl k) .strong) = some re) : PE X (.Compare a [op] [b] pos) (dE X.D E δ re) :=
 q8S (λ _ _ h1 h2 => z1X (q4o hu) h1 h2 (q3N hs)) ha hb h λ O W H0 H x y Q dx cx dy cy σ k hd gx gy p => by
  obtain ⟨k', e1, e2⟩ := Option.map_eq_some_iff.mp k
  cases e2
  exact ⟨dx, dy, k', e1, gx.all hd, gy.all hd, p _ H (Same.refl H) q2U⟩
theorem q8y {op : CmpOp} (ha : ∀ q, ra = some q -> PE X a (dE X.D E δ q)) (hb : ∀ q, rb = some q -> PE X b (dE X.D E δ q))
  (h : (Re.thn ra λ x _ => Re.thn rb λ y _ => (cmpD op x y).map λ k => .ok (.bl k) .strong) = some re) : ∃ ta tb, PE X a ta /\ PE X b tb /\ ∀ σ H Q, dE X.D E δ re σ H Q -> tOp (cmpR X op) ta tb σ H Q :=
 q6X ha hb h λ O W H0 H x y Q dx cx dy cy σ k hd gx gy p => by
  obtain ⟨k', e1, e2⟩ := Option.map_eq_some_iff.mp k
  cases e2
  exact ⟨dx, dy, k', e1, gx.all hd, gy.all hd, p _ H (Same.refl H) q2U⟩
theorem z0T {r : Rt} {σ : St} {H : Hp} {Q : Bool -> Hp -> Prop} (hb : ∀ d c, re = .ok d c -> ∃ k, d = .bl k) (h : tstD (some re) = some r) (q : dT X.D E δ r σ H Q) : dE X.D E δ re σ H (λ x H' => ∃ k, x = .bl k /\ Q k H') := by
 obtain ⟨O, W, R, p⟩ := q
 cases re with
 | ex c => cases h; exact ⟨O, W, R, p⟩
 | ok d c =>
  obtain ⟨k, rfl⟩ := hb d c rfl
  cases h
  exact ⟨O, W, R, λ v H' s g => ⟨k, g.bl (R.hid.mono s), p H' s⟩⟩
theorem z3W {op : CmpOp} (h : (Re.thn ra λ x _ => Re.thn rb λ y _ => (cmpD op x y).map λ k => .ok (.bl k) .strong) = some re) : ∀ d c, re = .ok d c -> ∃ k, d = .bl k := by
 intro d c e
 subst e
 cases ra with
 | none => cases h
 | some q =>
  cases q with
  | ex c => cases h
  | ok d c =>
   cases rb with
   | none => cases h
   | some q =>
    cases q with
    | ex c => cases h
    | ok d' c' =>
     obtain ⟨k, _, e⟩ := Option.map_eq_some_iff.mp (show ((cmpD op d d').map λ k => Re.ok (.bl k) .strong) = _ from h)
     cases e
     exact ⟨k, rfl⟩
theorem q9K {op : CmpOp} {r : Rt} (hu : X.A.units + 64 < cLine) (ha : ∀ q, ra = some q -> PE X a (dE X.D E δ q)) (hb : ∀ q, rb = some q -> PE X b (dE X.D E δ q)) (hs : q2B b = false)
  (h : tstD (Re.thn ra λ x _ => Re.thn rb λ y _ => (cmpD op x y).map λ k => .ok (.bl k) .strong) = some r) : PT X (.Compare a [op] [b] pos) (dT X.D E δ r) := by
 cases q : (Re.thn ra λ x _ => Re.thn rb λ y _ => (cmpD op x y).map λ k => Re.ok (.bl k) .strong) with
 | none => rw [q] at h; cases h
 | some re =>
  rw [q] at h
  obtain ⟨ta, tb, A, B, w⟩ := q8y ha hb q
  exact (z2j (q4o hu) A B (q3N hs)).weak λ σ H Q z => w σ H _ (z0T (z3W q) h z)
theorem q3s {op op' : CmpOp} {b c : Expr} (h : q2B c = false) : lastMarks [op, op'] [b, c] = false := by
 show behindInMarks op' c = false
 exact q3N h
theorem q3I {op op' : CmpOp} (ha : ∀ q, ra = some q -> PE X a (dE X.D E δ q)) (hb : ∀ q, rb = some q -> PE X b (dE X.D E δ q)) (hc : ∀ q, rc = some q -> PE X c (dE X.D E δ q))
  (h : (Re.thn ra λ x _ => Re.thn rb λ y _ => match cmpD op x y with
   | none => none
   | some false => some (.ok (.bl false) .strong)
   | some true => Re.thn rc λ z _ => (cmpD op' y z).map λ k => .ok (.bl k) .strong) = some re) : ∃ ta tb tc, PE X a ta /\ PE X b tb /\ PE X c tc /\ (∀ σ H Q, dE X.D E δ re σ H Q -> q9m (cmpR X op) (cmpR X op') ta tb tc σ H Q) /\ ∀ d cl, re = .ok d cl -> ∃ k, d = .bl k := by
 cases hra : ra with
 | none => rw [hra] at h; cases h
 | some q =>
  rw [hra] at h
  have A := ha q hra
  cases q with
  | ex c => cases h; exact ⟨_, _, _, A, q1g, q1g, λ σ H Q ⟨O, W, R, p⟩ => ⟨O, W, R, p⟩, λ d cl z => nomatch z⟩
  | ok dx cx =>
   cases hrb : rb with
   | none => rw [hrb] at h; cases h
   | some q =>
    rw [hrb] at h
    have B := hb q hrb
    cases q with
    | ex c => cases h; exact ⟨_, _, _, A, B, q1g, λ σ H Q ⟨O, W, R, p⟩ => ⟨O, W, R, λ x H1 s1 g1 => ⟨O, W, R.mono s1, λ H' C m s => p H' C m (s1.trans s)⟩⟩, λ d cl z => nomatch z⟩
    | ok dy cy =>
     have h' : (match (generalizing := false) cmpD op dx dy with
      | none => none
      | some false => some (Re.ok (.bl false) .strong)
      | some true => Re.thn rc λ z _ => (cmpD op' dy z).map λ k => .ok (.bl k) .strong) = some re := h
     split at h'
     ·cases h'
     ·rename_i e1
      cases h'
      exact ⟨_, _, _, A, B, q1g, λ σ H Q ⟨O, W, R, p⟩ => ⟨O, W, R, λ x H1 s1 g1 => ⟨O, W, R.mono s1, λ y H2 s2 g2 =>
       ⟨dx, dy, false, e1, (g1.mono s2).all ((R.hid.mono s1).mono s2), g2.all ((R.mono s1).hid.mono s2), false, rfl, by rw [if_neg Bool.false_ne_true]; exact p _ _ (s1.trans s2) q2U⟩⟩⟩, λ d cl z => by cases z; exact ⟨_, rfl⟩⟩
     ·rename_i e1
      cases hrc : rc with
      | none => rw [hrc] at h'; cases h'
      | some q =>
       rw [hrc] at h'
       have C := hc q hrc
       cases q with
       | ex c' =>
        cases h'
        exact ⟨_, _, _, A, B, C, λ σ H Q ⟨O, W, R, p⟩ => ⟨O, W, R, λ x H1 s1 g1 => ⟨O, W, R.mono s1, λ y H2 s2 g2 =>
         ⟨dx, dy, true, e1, (g1.mono s2).all ((R.hid.mono s1).mono s2), g2.all ((R.mono s1).hid.mono s2), true, rfl, by rw [if_pos rfl]; exact ⟨O, W, (R.mono s1).mono s2, λ H' C m s => p H' C m (s1.trans (s2.trans s))⟩⟩⟩⟩, λ d cl z => nomatch z⟩
       | ok dz cz =>
        obtain ⟨k, e2, e3⟩ := Option.map_eq_some_iff.mp (show ((cmpD op' dy dz).map λ k => Re.ok (.bl k) .strong) = some re from h')
        cases e3
        exact ⟨_, _, _, A, B, C, λ σ H Q ⟨O, W, R, p⟩ => ⟨O, W, R, λ x H1 s1 g1 => ⟨O, W, R.mono s1, λ y H2 s2 g2 =>
         ⟨dx, dy, true, e1, (g1.mono s2).all ((R.hid.mono s1).mono s2), g2.all ((R.mono s1).hid.mono s2), true, rfl, by
          rw [if_pos rfl]
          exact ⟨O, W, (R.mono s1).mono s2, λ z H3 s3 g3 => ⟨dy, dz, k, e2, (g2.mono s3).all (((R.mono s1).hid.mono s2).mono s3), g3.all (((R.mono s1).mono s2).hid.mono s3), p _ _ (s1.trans (s2.trans s3)) q2U⟩⟩⟩⟩⟩, λ d cl z => by cases z; exact ⟨_, rfl⟩⟩
theorem q8z {op op' : CmpOp} (hu : X.A.units + 64 < cLine) (ha : ∀ q, ra = some q -> PE X a (dE X.D E δ q)) (hb : ∀ q, rb = some q -> PE X b (dE X.D E δ q)) (hc : ∀ q, rc = some q -> PE X c (dE X.D E δ q)) (hs : q2B c = false)
  (h : (Re.thn ra λ x _ => Re.thn rb λ y _ => match cmpD op x y with
   | none => none
   | some false => some (.ok (.bl false) .strong)
   | some true => Re.thn rc λ z _ => (cmpD op' y z).map λ k => .ok (.bl k) .strong) = some re) : PE X (.Compare a [op, op'] [b, c] pos) (dE X.D E δ re) := by
 obtain ⟨ta, tb, tc, A, B, C, w, _⟩ := q3I ha hb hc h
 exact (q9P (q4o hu) (q4o hu) A B C (q3s hs)).weak w
theorem q7n {op op' : CmpOp} {r : Rt} (hu : X.A.units + 64 < cLine) (ha : ∀ q, ra = some q -> PE X a (dE X.D E δ q)) (hb : ∀ q, rb = some q -> PE X b (dE X.D E δ q)) (hc : ∀ q, rc = some q -> PE X c (dE X.D E δ q)) (hs : q2B c = false)
  (h : tstD (Re.thn ra λ x _ => Re.thn rb λ y _ => match cmpD op x y with
   | none => none
   | some false => some (.ok (.bl false) .strong)
   | some true => Re.thn rc λ z _ => (cmpD op' y z).map λ k => .ok (.bl k) .strong) = some r) : PT X (.Compare a [op, op'] [b, c] pos) (dT X.D E δ r) := by
 cases q : (Re.thn ra λ x _ => Re.thn rb λ y _ => match cmpD op x y with
   | none => none
   | some false => some (Re.ok (.bl false) .strong)
   | some true => Re.thn rc λ z _ => (cmpD op' y z).map λ k => .ok (.bl k) .strong) with
 | none => rw [q] at h; cases h
 | some re =>
  rw [q] at h
  obtain ⟨ta, tb, tc, A, B, C, w, hbl⟩ := q3I ha hb hc q
  exact (q9G (q4o hu) (q4o hu) A B C (q3s hs)).weak λ σ H Q z => w σ H _ (z0T hbl h z)
end
section
variable {X : Cx} {E : St -> XK} {δ : List Sv} {a b c e : Expr} {es : List Expr} {pos : Pos} {ra : Option Re} {rt ru : Option Rt} {r : Rt} {re : Re}
theorem q4x {D : Dm} {H : Hp} {d : DV} {v : V} {k : Bool} (h : q2q d = some k) (r : Rep D H d v) : TruV D.K v H k := by
 cases d with
 | non => cases h; rw [q2L.mp r]; rfl
 | bl b => cases h; rw [q3n.mp r]; rfl
 | int i => cases h; rw [q0J.mp r]; rfl
 | str x =>
  cases h
  obtain ⟨e1, e2⟩ := q2c.mp r
  rw [e1]
  refine ⟨e2, ?_⟩
  show (x.cps.size != 0) = (((x.cps.size : Nat) : Int) != 0)
  cases x.cps.size with
  | zero => rfl
  | succ n => simp only [bne, Nat.add_eq_zero_iff]; rw [Bool.eq_iff_iff]; simp; omega
 | tup ds =>
  cases h
  obtain ⟨a, xs, e1, e2, e3⟩ := q0I.mp r
  rw [e1]
  refine .inr (.inl ⟨xs, e2, ?_⟩)
  have := e3.length
  cases xs <;> cases ds <;> first | rfl | cases this
 | lst ds =>
  cases h
  obtain ⟨a, xs, e1, e2, e3⟩ := q0B.mp r
  rw [e1]
  refine .inl ⟨xs, SqL.of e2, ?_⟩
  have := e3.length
  cases xs <;> cases ds <;> first | rfl | cases this
 | dct _ _ => cases h
 | exc _ => cases h
 | fn _ => cases h
 | scr _ => cases h
theorem q8g (ha : ∀ q, ra = some q -> PE X e (dE X.D E δ q)) (he : ∀ whole, isTrue e X.env whole = (do let v ← whole; standAt e.pos; holding [v] (truthy v))) (h : tstD ra = some r) : PT X e (dT X.D E δ r) := by
 cases hra : ra with
 | none => rw [hra] at h; cases h
 | some q =>
  rw [hra] at h
  have A := ha q hra
  cases q with
  | ex c => cases h; exact (q6P A he).weak λ σ H Q ⟨O, W, R, p⟩ => ⟨O, W, R, p⟩
  | ok d cl =>
   obtain ⟨k, e1, e2⟩ := Option.map_eq_some_iff.mp (show (q2q d).map Rt.ok = some r from h)
   cases e2
   exact (q6P A he).weak λ σ H Q ⟨O, W, R, p⟩ => ⟨O, W, R, λ x H1 s1 g1 => ⟨k, q4x e1 (g1.all (R.hid.mono s1)), p H1 s1⟩⟩
theorem z2I {ta : TE} (ha : PE X a ta) : PE X (.UnaryOp .Not a pos) (tUn (λ x H Q => ∃ k, TruV X.K x H k /\ Q (.bl (!k)) H) ta) := by
 intro pins s σ H Q I h
 refine UnaryOp_ (thn (ha pins s σ H _ I h) λ v s1 ⟨x, H1, I1, r1, q1⟩ => ?_)
 obtain ⟨k, t, q1⟩ := q1
 exact not_of (thn (q6x pins s1 σ H1 x v (λ b H' => b = k /\ H' = H1) I1 r1 ⟨k, t, rfl, rfl⟩) λ b s2 ⟨H2, I2, e1, e2⟩ => by
  subst e1 e2
  exact ⟨.bl (!b), H2, I2, rfl, q1⟩)
theorem z2u (ha : ∀ q, ra = some q -> PE X a (dE X.D E δ q)) (h : (Re.thn ra λ x _ => (q2q x).map λ k => .ok (.bl (!k)) .strong) = some re) : PE X (.UnaryOp .Not a pos) (dE X.D E δ re) :=
 z0N (λ _ => z2I) ha h λ O W H0 H x Q dx cx σ k hd gx p => by
  obtain ⟨b, e1, e2⟩ := Option.map_eq_some_iff.mp k
  cases e2
  exact ⟨b, q4x e1 (gx.all hd), p _ H (Same.refl H) q2U⟩
theorem q5Y {ta tb : TE} (ha : PE X a ta) (hb : PE X (.BoolOp .And (b :: es) pos) tb) : PE X (.BoolOp .And (a :: b :: es) pos) (λ σ H Q => ta σ H λ x H1 => ∃ k, TruV X.K x H1 k /\ if k = true then tb σ H1 Q else Q x H1) := by
 intro pins s σ H Q I h
 refine BoolOp_and (thn (ha pins s σ H _ I h) λ v s1 ⟨x, H1, I1, r1, q1⟩ => ?_)
 obtain ⟨k, t, q1⟩ := q1
 refine thn (q6x pins s1 σ H1 x v (λ b H' => b = k /\ H' = H1) I1 r1 ⟨k, t, rfl, rfl⟩) λ c s2 ⟨H2, I2, e1, e2⟩ => ?_
 subst e1 e2
 cases c with
 | true => exact hb pins s2 σ H2 Q I2 q1
 | false => exact ⟨x, H2, I2, r1, q1⟩
theorem q8i {ta tb : TE} (ha : PE X a ta) (hb : PE X (.BoolOp .Or (b :: es) pos) tb) : PE X (.BoolOp .Or (a :: b :: es) pos) (λ σ H Q => ta σ H λ x H1 => ∃ k, TruV X.K x H1 k /\ if k = true then Q x H1 else tb σ H1 Q) := by
 intro pins s σ H Q I h
 refine BoolOp_or (thn (ha pins s σ H _ I h) λ v s1 ⟨x, H1, I1, r1, q1⟩ => ?_)
 obtain ⟨k, t, q1⟩ := q1
 refine thn (q6x pins s1 σ H1 x v (λ b H' => b = k /\ H' = H1) I1 r1 ⟨k, t, rfl, rfl⟩) λ c s2 ⟨H2, I2, e1, e2⟩ => ?_
 subst e1 e2
 cases c with
 | false => exact hb pins s2 σ H2 Q I2 q1
 | true => exact ⟨x, H2, I2, r1, q1⟩
theorem z2o {rb : Option Re} (ha : ∀ q, ra = some q -> PE X a (dE X.D E δ q)) (hb : ∀ q, rb = some q -> PE X (.BoolOp .And (b :: es) pos) (dE X.D E δ q)) (h : (Re.thn ra λ x c => andD x c rb) = some re) : PE X (.BoolOp .And (a :: b :: es) pos) (dE X.D E δ re) := by
 cases hra : ra with
 | none => rw [hra] at h; cases h
 | some q =>
  rw [hra] at h
  have A := ha q hra
  cases q with
  | ex c => cases h; exact (q5Y A q1g).weak λ σ H Q ⟨O, W, R, p⟩ => ⟨O, W, R, p⟩
  | ok d cl =>
   have h' : andD d cl rb = some re := h
   unfold andD at h'
   split at h'
   ·cases h'
   ·rename_i t
    exact (q5Y A (hb re h')).weak λ σ H Q ⟨O, W, R, p⟩ => ⟨O, W, R, λ x H1 s1 g1 => ⟨true, q4x t (g1.all (R.hid.mono s1)), iteT ⟨O, W, R.mono s1, p.later s1 s1⟩⟩⟩
   ·rename_i t
    cases h'
    exact (q5Y A q1g).weak λ σ H Q ⟨O, W, R, p⟩ => ⟨O, W, R, λ x H1 s1 g1 => ⟨false, q4x t (g1.all (R.hid.mono s1)), iteF (p _ H1 s1 g1)⟩⟩
theorem z3e {rb : Option Re} (ha : ∀ q, ra = some q -> PE X a (dE X.D E δ q)) (hb : ∀ q, rb = some q -> PE X (.BoolOp .Or (b :: es) pos) (dE X.D E δ q)) (h : (Re.thn ra λ x c => orD x c rb) = some re) : PE X (.BoolOp .Or (a :: b :: es) pos) (dE X.D E δ re) := by
 cases hra : ra with
 | none => rw [hra] at h; cases h
 | some q =>
  rw [hra] at h
  have A := ha q hra
  cases q with
  | ex c => cases h; exact (q8i A q1g).weak λ σ H Q ⟨O, W, R, p⟩ => ⟨O, W, R, p⟩
  | ok d cl =>
   have h' : orD d cl rb = some re := h
   unfold orD at h'
   split at h'
   ·cases h'
   ·rename_i t
    cases h'
    exact (q8i A q1g).weak λ σ H Q ⟨O, W, R, p⟩ => ⟨O, W, R, λ x H1 s1 g1 => ⟨true, q4x t (g1.all (R.hid.mono s1)), iteT (p _ H1 s1 g1)⟩⟩
   ·rename_i t
    exact (q8i A (hb re h')).weak λ σ H Q ⟨O, W, R, p⟩ => ⟨O, W, R, λ x H1 s1 g1 => ⟨false, q4x t (g1.all (R.hid.mono s1)), iteF ⟨O, W, R.mono s1, p.later s1 s1⟩⟩⟩
theorem q5S {k : DV -> Cl -> Option Re} (h : tstD (Re.thn ra k) = some r) : (ra = none /\ False) \/ (∃ c, ra = some (.ex c) /\ r = .ex c) \/ ∃ d c, ra = some (.ok d c) /\ tstD (k d c) = some r := by
 cases hra : ra with
 | none => rw [hra] at h; cases h
 | some q =>
  rw [hra] at h
  cases q with
  | ex c => cases h; exact .inr (.inl ⟨c, rfl, rfl⟩)
  | ok d c => exact .inr (.inr ⟨d, c, rfl, h⟩)
theorem z0Q {d : DV} {c : Cl} {r : Rt} (h : tstD (some (.ok d c)) = some r) : ∃ k, q2q d = some k /\ r = .ok k := by
 obtain ⟨k, e1, e2⟩ := Option.map_eq_some_iff.mp (show (q2q d).map Rt.ok = some r from h)
 exact ⟨k, e1, e2.symm⟩
theorem q9U (ha : ∀ q, tstD ra = some q -> PT X a (dT X.D E δ q)) (h : tstD (Re.thn ra λ x _ => (q2q x).map λ k => .ok (.bl (!k)) .strong) = some r) : PT X (.UnaryOp .Not a pos) (dT X.D E δ r) := by
 rcases q5S h with ⟨_, z⟩ | ⟨c, e1, e2⟩ | ⟨d, c, e1, e2⟩
 ·exact z.elim
 ·subst e1 e2
  exact (z0V (ha (.ex c) rfl)).weak λ σ H Q ⟨O, W, R, p⟩ => ⟨O, W, R, p⟩
 ·cases t : q2q d with
  | none => rw [t] at e2; cases e2
  | some k =>
   rw [t] at e2
   cases e2
   have A := ha (.ok k) (by rw [e1]; show (q2q d).map Rt.ok = _; rw [t]; rfl)
   exact (z0V A).weak λ σ H Q ⟨O, W, R, p⟩ => ⟨O, W, R, λ H1 s1 => p H1 s1⟩
theorem q9O {rb : Option Re} (ha : ∀ q, tstD ra = some q -> PT X a (dT X.D E δ q)) (hb : ∀ q, tstD rb = some q -> PW X (.BoolOp .And (b :: es) pos) (dT X.D E δ q)) (h : tstD (Re.thn ra λ x c => andD x c rb) = some r) : PW X (.BoolOp .And (a :: b :: es) pos) (dT X.D E δ r) := by
 rcases q5S h with ⟨_, z⟩ | ⟨c, e1, e2⟩ | ⟨d, c, e1, e2⟩
 ·exact z.elim
 ·subst e1 e2
  exact (q9d (ha (.ex c) rfl) q4N).weak λ σ H Q ⟨O, W, R, p⟩ => ⟨O, W, R, p⟩
 ·unfold andD at e2
  cases t : q2q d with
  | none => rw [t] at e2; cases e2
  | some k =>
   rw [t] at e2
   have A := ha (.ok k) (by rw [e1]; show (q2q d).map Rt.ok = _; rw [t]; rfl)
   cases k with
   | true => exact (q9d A (hb r e2)).weak λ σ H Q ⟨O, W, R, p⟩ => ⟨O, W, R, λ H1 s1 => iteT ⟨O, W, R.mono s1, p.later s1⟩⟩
   | false =>
    obtain ⟨k, t', rfl⟩ := z0Q e2
    rw [t] at t'; cases t'
    exact (q9d A q4N).weak λ σ H Q ⟨O, W, R, p⟩ => ⟨O, W, R, λ H1 s1 => iteF (p H1 s1)⟩
theorem z2q {rb : Option Re} (ha : ∀ q, tstD ra = some q -> PT X a (dT X.D E δ q)) (hb : ∀ q, tstD rb = some q -> PW X (.BoolOp .Or (b :: es) pos) (dT X.D E δ q)) (h : tstD (Re.thn ra λ x c => orD x c rb) = some r) : PW X (.BoolOp .Or (a :: b :: es) pos) (dT X.D E δ r) := by
 rcases q5S h with ⟨_, z⟩ | ⟨c, e1, e2⟩ | ⟨d, c, e1, e2⟩
 ·exact z.elim
 ·subst e1 e2
  exact (z2E (ha (.ex c) rfl) q4N).weak λ σ H Q ⟨O, W, R, p⟩ => ⟨O, W, R, p⟩
 ·unfold orD at e2
  cases t : q2q d with
  | none => rw [t] at e2; cases e2
  | some k =>
   rw [t] at e2
   have A := ha (.ok k) (by rw [e1]; show (q2q d).map Rt.ok = _; rw [t]; rfl)
   cases k with
   | false => exact (z2E A (hb r e2)).weak λ σ H Q ⟨O, W, R, p⟩ => ⟨O, W, R, λ H1 s1 => iteF ⟨O, W, R.mono s1, p.later s1⟩⟩
   | true =>
    obtain ⟨k, t', rfl⟩ := z0Q e2
    rw [t] at t'; cases t'
    exact (z2E A q4N).weak λ σ H Q ⟨O, W, R, p⟩ => ⟨O, W, R, λ H1 s1 => iteT (p H1 s1)⟩
theorem q4L {tc t u : TT} (hc : PT X c tc) (ha : PT X a t) (hb : PT X b u) : PT X (.IfExp c a b pos) (λ σ H Q => tc σ H λ k H1 => if k = true then t σ H1 Q else u σ H1 Q) := by
 intro pins s σ H Q I h
 refine isTrue_IfExp (thn (hc pins s σ H _ I h) λ k s1 ⟨H1, I1, q1⟩ => ?_)
 cases k with
 | true => exact ha pins s1 σ H1 Q I1 q1
 | false => exact hb pins s1 σ H1 Q I1 q1
theorem q9y {rb : Option Re} (hc : ∀ q, rt = some q -> PT X c (dT X.D E δ q)) (ha : ∀ q, tstD ra = some q -> PT X a (dT X.D E δ q)) (hb : ∀ q, tstD rb = some q -> PT X b (dT X.D E δ q)) (h : tstD (Rt.thn rt λ k => if k then ra else rb) = some r) : PT X (.IfExp c a b pos) (dT X.D E δ r) := by
 cases hrt : rt with
 | none => rw [hrt] at h; cases h
 | some q =>
  rw [hrt] at h
  have C := hc q hrt
  cases q with
  | ex c => cases h; exact (q4L C q4F q4F).weak λ σ H Q ⟨O, W, R, p⟩ => ⟨O, W, R, p⟩
  | ok k =>
   cases k with
   | true => exact (q4L C (ha r h) q4F).weak λ σ H Q ⟨O, W, R, p⟩ => ⟨O, W, R, λ H1 s1 => iteT ⟨O, W, R.mono s1, p.later s1⟩⟩
   | false => exact (q4L C q4F (hb r h)).weak λ σ H Q ⟨O, W, R, p⟩ => ⟨O, W, R, λ H1 s1 => iteF ⟨O, W, R.mono s1, p.later s1⟩⟩
theorem z2H {rb rc : Option Re} (hc : ∀ q, rt = some q -> PT X c (dT X.D E δ q)) (ha : ∀ q, rb = some q -> PE X a (dE X.D E δ q)) (hb : ∀ q, rc = some q -> PE X b (dE X.D E δ q))
  (h : (Rt.thn rt λ k => if k then rb else rc) = some re) : PE X (.IfExp c a b pos) (dE X.D E δ re) := by
 cases hrt : rt with
 | none => rw [hrt] at h; cases h
 | some q =>
  rw [hrt] at h
  have C := hc q hrt
  cases q with
  | ex c => cases h; exact (q4K C q1g q1g).weak λ σ H Q ⟨O, W, R, p⟩ => ⟨O, W, R, p⟩
  | ok k =>
   cases k with
   | true =>
    have h' : rb = some re := h
    exact (q4K C (ha re h') q1g).weak λ σ H Q ⟨O, W, R, p⟩ => ⟨O, W, R, λ H1 s1 => iteT ⟨O, W, R.mono s1, p.later s1 s1⟩⟩
   | false =>
    have h' : rc = some re := h
    exact (q4K C q1g (hb re h')).weak λ σ H Q ⟨O, W, R, p⟩ => ⟨O, W, R, λ H1 s1 => iteF ⟨O, W, R.mono s1, p.later s1 s1⟩⟩
theorem q0r {e : Expr} {es : List Expr} {env : Env} (h : q0s e = false) : starEach (e :: es) env = (false, eval e env) :: starEach es env := by
 cases e <;> first | rfl | cases h
theorem z0t : PA X [] (dA X.D E δ (.ok [])) := q3r.weak λ σ H Q ⟨O, W, R, p⟩ => p [] H (Same.refl H) .nil
theorem q9b {rs : Option Rs} {q : Rs} (hs : q0s e = false) (ha : ∀ q, ra = some q -> PE X e (dE X.D E δ q)) (hb : ∀ q, rs = some q -> PA X es (dA X.D E δ q))
  (h : (match (generalizing := false) ra with | none => none | some (.ex c) => some (Rs.ex c) | some (.ok d c) => (match (generalizing := false) rs with | none => none | some (.ex c) => some (.ex c) | some (.ok l) => some (.ok ((d, c) :: l)))) = some q) : PA X (e :: es) (dA X.D E δ q) := by
 cases hra : ra with
 | none => rw [hra] at h; cases h
 | some z =>
  rw [hra] at h
  have A := ha z hra
  cases z with
  | ex c => cases h; exact (q1h A z2x (q0r hs)).weak λ σ H Q ⟨O, W, R, p⟩ => ⟨O, W, R, p⟩
  | ok d cl =>
   cases hrs : rs with
   | none => rw [hrs] at h; cases h
   | some y =>
    rw [hrs] at h
    have B := hb y hrs
    cases y with
    | ex c => cases h; exact (q1h A B (q0r hs)).weak λ σ H Q ⟨O, W, R, p⟩ => ⟨O, W, R, λ x H1 s1 g1 => ⟨O, W, R.mono s1, λ H' C m s => p H' C m (s1.trans s)⟩⟩
    | ok l =>
     cases h
     exact (q1h A B (q0r hs)).weak λ σ H Q ⟨O, W, R, p⟩ => ⟨O, W, R, λ x H1 s1 g1 => ⟨O, W, R.mono s1, λ vs H2 s2 g2 => p _ H2 (s1.trans s2) (.cons (g1.mono s2) (g2.since s1))⟩⟩
theorem z1p {rs : Option Rs} (ha : ∀ q, rs = some q -> PA X es (dA X.D E δ q)) (h : (Rs.thn rs λ l => if l.length <= mostLen then some (.ok (.lst (l.map (·.1))) (if stros l then .fresh else .weak)) else none) = some re) : PE X (.List es pos) (dE X.D E δ re) :=
 q3E (r := λ vs H Q => vs.length <= sizeLine /\ ∀ p, H p = none -> Q (.ref p) (upd H p (.lst vs))) (λ _ => z3X) ha h λ O W H0 H vs Q l σ k hd g p => by
  split at k
  ·rename_i m
   cases k
   refine ⟨by rw [g.length]; exact q1s m, λ q hq => p _ _ (q0q hq) ?_⟩
   by_cases z : stros l = true
   ·rw [if_pos z]; exact q2k hd hq (g.stros hd z)
   ·rw [if_neg z]; exact q4I hd hq (g.repL hd)
  ·cases k
theorem z2w {rs : Option Rs} {x1 : Nat} (ha : ∀ q, rs = some q -> PA X es (dA X.D E δ q)) (h : (Rs.thn rs λ l => if l.length <= mostLen then some (.ok (.tup (l.map (·.1))) (if stros l then .strong else .weak)) else none) = some re) : PE X (.Tuple es x1 pos) (dE X.D E δ re) :=
 q3E (r := λ vs H Q => vs.length <= sizeLine /\ ∀ p, H p = none -> Q (.ref p) (upd H p (.tup vs))) (λ _ => q6I) ha h λ O W H0 H vs Q l σ k hd g p => by
  split at k
  ·rename_i m
   cases k
   refine ⟨by rw [g.length]; exact q1s m, λ q hq => p _ _ (q0q hq) ?_⟩
   by_cases z : stros l = true
   ·rw [if_pos z]; exact q3g hd hq (g.stros hd z)
   ·rw [if_neg z]; exact q4T hd hq (g.repL hd)
  ·cases k
end
end L2
end
section
namespace L2
open PySem PySem.Spec PyProof.Rows
noncomputable def GotR (D : Dm) (O : List Addr) (H0 H : Hp) (d : DV) (fr : Bool) (v : V) : Prop := match fr with
 | false => Rep D (L2.wo O H) d v
 | true => ∃ p xs ds, v = .ref p /\ d = .lst ds /\ H0 p = none /\ H p = some (.lst xs) /\ RepL D (L2.wo (p :: O) H) ds xs
noncomputable def GotF (H H' : Hp) (xs : List DV) (v : V) : Prop := ∃ (p : Addr) (L : List (Addr × List Int)), v = .ref p /\ xs = L.map (λ q => .lst (q.2.map DV.int)) /\ H p = none /\ H' p = some (.lst (L.map λ q => .ref q.1)) /\ (∀ q ∈ L, H q.1 = none /\ H' q.1 = some (.lst (q.2.map V.int))) /\ (p :: L.map (·.1)).Nodup
theorem GotF.since {H0 H1 H : Hp} {xs : List DV} {v : V} (g : GotF H1 H xs v) (f : ∀ a, H1 a = none -> H0 a = none) : GotF H0 H xs v := by
 obtain ⟨p, L, e1, e2, e3, e4, e5, e6⟩ := g
 exact ⟨p, L, e1, e2, f _ e3, e4, λ q hq => ⟨f _ (e5 q hq).1, (e5 q hq).2⟩, e6⟩
theorem GotF.items {D : Dm} {H0 H : Hp} {xs : List DV} {v : V} {Z : List Addr} (g : GotF H0 H xs v) (hz : ∀ a ∈ Z, H0 a ≠ none) : ∃ p vs, v = .ref p /\ H0 p = none /\ H p = some (.lst vs) /\ RepL D (L2.wo (p :: Z) H) xs vs := by
 obtain ⟨p, L, e1, e2, e3, e4, e5, e6⟩ := g
 refine ⟨p, _, e1, e3, e4, ?_⟩
 rw [e2]
 refine q6n λ q hq => ?_
 rw [q0y λ z => ?_]
 ·exact (e5 q hq).2
 ·rcases List.mem_cons.mp z with z | z
  ·exact (List.nodup_cons.mp e6).1 (List.mem_map.mpr ⟨q, hq, z⟩)
  ·exact hz _ z (e5 q hq).1
theorem GotF.fresh {D : Dm} {O W : List Addr} {H0 H1 H : Hp} {xs : List DV} {v : V} (g : GotF H0 H xs v) (hd : Hid O W H0 H1) : Got D O W H0 H (.lst xs) .fresh v := by
 obtain ⟨p, vs, e1, e2, e3, e4⟩ := g.items (D := D) (Z := O ++ W) hd.ot
 exact ⟨p, vs, xs, e1, rfl, e2, e3, e4⟩
noncomputable def GotT (D : Dm) (O : List Addr) (H0 H : Hp) (d : DV) (v : V) : Prop := (∃ t ts p xs ds es, v = .ref t /\ d = .tup (.lst ds :: es) /\ SqT D.K (L2.wo O H) t (.ref p :: ts) /\ H0 p = none /\ H p = some (.lst xs) /\ RepL D (L2.wo (p :: O) H) ds xs /\ RepL D (L2.wo (p :: O) H) es ts) \/ ∃ xs, d = .lst xs /\ GotF H0 H xs v
noncomputable def spF (D : Dm) (n : Nat) (f : List DV -> Option Ou) : Sp := λ vs H Q E => ∃ O ds o, (∀ a ∈ O, H a ≠ none) /\ ds.length = n /\ RepL D (L2.wo O H) ds vs /\ f ds = some o /\
 (match o with | .v d fr => ∀ v H', Same H H' -> GotR D O H H' d fr v -> Q v H' | .t d => ∀ v H', Same H H' -> GotT D O H H' d v -> Q v H' | .x c => ∀ H' C, D.mg c = some C -> Same H H' -> E C none H')
section
variable {X : Cx} {E : St -> XK} {δ : List Sv} {e : Expr} {es : List Expr} {pos p : Pos} {re : Re} {rs : Option Rs} {k : Nat} {fa : Addr} {fd : FuncData} {ps : List Str} {x : Str}
theorem q9M {F : Nat -> List DV -> Option Ou} {f : Nat} (fo : FnOk X.prog X.w X.K X.mg X.base (CXx X.prog X.w X.base) k fa fd ps (spF X.D ps.length (F f))) (hn : ∀ ds o, F f ds = some o -> ds.length = ps.length) (hr : Room k X.A) (hg : Gl X x) (hm : X.mg x = some (.ref fa)) (hk : PySem.W.keepIn X.K (.ref fa) = true)
  (hb : q4a X.K fd ps []) (hx : q3i (CXx X.prog X.w X.base) X E) (ha : ∀ q, rs = some q -> PA X (e :: es) (dA X.D E δ q)) (hdb : (x == ("__debug__" : Str)) = false) (hs : q0s e = false) (hss : es.any q0s = false)
  (h : (Rs.thn rs λ l => q2A F f l) = some re) : PE X (.Call (.Name x p) (e :: es) [] pos) (dE X.D E δ re) := by
 have plain : ∀ (es : List Expr), es.any q0s = false -> (backTo pos (starEach es X.env)).any (·.1) = false := by
  intro es
  induction es with
  | nil => intro _; rfl
  | cons y ys ih =>
   intro q
   rw [List.any_cons, Bool.or_eq_false_iff] at q
   rw [q0r q.1]
   show (false || (backTo pos (starEach ys X.env)).any (·.1)) = false
   rw [ih q.2]; rfl
 have C := λ t (hA : PA X (e :: es) t) => q9X (p := p) (pos := pos) fo hr hg hm hk hb .nil hx hA hdb (q0r hs) (plain es hss)
 cases hrs : rs with
 | none => rw [hrs] at h; cases h
 | some q =>
  rw [hrs] at h
  have A := ha q hrs
  cases q with
  | ex c => cases h; exact (C _ A).weak λ σ H Q ⟨O, W, R, p⟩ => ⟨O, W, R, p⟩
  | ok l =>
   have h' : q2A F f l = some re := h
   unfold q2A at h'
   split at h'
   ·cases h'
   ·rename_i c e1
    cases h'
    refine (C _ A).weak λ σ H Q ⟨O, W, R, p⟩ => ⟨O, W, R, λ vs H1 s1 g1 => ?_⟩
    have hd := R.hid.mono s1
    show spF X.D ps.length (F f) (vs ++ []) H1 Q (E σ)
    rw [List.append_nil]
    exact ⟨O, _, _, λ a ha q => hd.ot a (List.mem_append_left _ ha) (s1.free q), hn _ _ e1, g1.repL hd, e1, λ H' C m s => p H' C m (s1.trans s)⟩
   ·rename_i d e1
    cases h'
    refine (C _ A).weak λ σ H Q ⟨O, W, R, p⟩ => ⟨O, W, R, λ vs H1 s1 g1 => ?_⟩
    have hd := R.hid.mono s1
    show spF X.D ps.length (F f) (vs ++ []) H1 Q (E σ)
    rw [List.append_nil]
    by_cases z : (l.all λ p => p.2 == .strong || p.2 == .fresh) = true
    ·rw [if_pos z] at p
     refine ⟨O ++ W, _, _, λ a ha q => hd.ot a ha (s1.free q), hn _ _ e1, g1.strong hd z, e1, λ v H' s g => p v H' (s1.trans s) ?_⟩
     rcases g with ⟨t, ts, q, xs, ds, es, f1, f2, f0, f3, f4, f5, f6⟩ | ⟨xs, f1, f2⟩
     ·subst f2
      exact ⟨t, ts, q, xs, ds, es, f1, rfl, f0, s1.free f3, f4, f5, f6⟩
     ·subst f1
      exact (f2.since λ a ha => s1.free ha).fresh hd
    ·rw [if_neg z] at p
     refine ⟨O, _, _, λ a ha q => hd.ot a (List.mem_append_left _ ha) (s1.free q), hn _ _ e1, g1.repL hd, e1, λ v H' s g => p v H' (s1.trans s) ?_⟩
     rcases g with ⟨t, ts, q, xs, ds, es, f1, f2, f0, f3, f4, f5, f6⟩ | ⟨xs, f1, f2⟩
     ·have hq : q ∉ O := λ z => hd.ot q (List.mem_append_left _ z) (s1.free f3)
      have up : Same (L2.wo (q :: O) H') (L2.wo O H') := q0O λ b hb => List.mem_cons_of_mem _ hb
      rw [f2]
      exact q0I.mpr ⟨t, _, f1, f0, q0j.mpr ⟨_, _, rfl, q0B.mpr ⟨q, xs, rfl, by rw [q0y hq]; exact f4, f5.mono up⟩, f6.mono up⟩⟩
     ·subst f1
      have hO : ∀ a ∈ O, H1 a ≠ none := λ a ha q => hd.ot a (List.mem_append_left _ ha) (s1.free q)
      obtain ⟨q, vs, g1', g2', g3', g4'⟩ := f2.items (D := X.D) hO
      have hq : q ∉ O := λ z => hO q z g2'
      exact q0B.mpr ⟨q, vs, g1', by rw [q0y hq]; exact g3', g4'.mono (q0O λ b hb => List.mem_cons_of_mem _ hb)⟩
   ·rename_i d fr e1
    cases h'
    refine (C _ A).weak λ σ H Q ⟨O, W, R, p⟩ => ⟨O, W, R, λ vs H1 s1 g1 => ?_⟩
    have hd := R.hid.mono s1
    show spF X.D ps.length (F f) (vs ++ []) H1 Q (E σ)
    rw [List.append_nil]
    by_cases z : (l.all λ p => p.2 == .strong || p.2 == .fresh) = true
    ·rw [if_pos z] at p
     refine ⟨O ++ W, _, _, λ a ha q => hd.ot a ha (s1.free q), hn _ _ e1, g1.strong hd z, e1, λ v H' s g => p v H' (s1.trans s) ?_⟩
     cases fr with
     | false => exact g
     | true =>
      obtain ⟨q, xs, ds, e1, e2, e3, e4, e5⟩ := g
      exact ⟨q, xs, ds, e1, e2, s1.free e3, e4, e5⟩
    ·rw [if_neg z] at p
     refine ⟨O, _, _, λ a ha q => hd.ot a (List.mem_append_left _ ha) (s1.free q), hn _ _ e1, g1.repL hd, e1, λ v H' s g => p v H' (s1.trans s) ?_⟩
     cases fr with
     | false => exact g
     | true =>
      obtain ⟨q, xs, ds, e1, e2, e3, e4, e5⟩ := g
      have hq : q ∉ O := λ z => hd.ot q (List.mem_append_left _ z) (s1.free e3)
      rw [e2]
      exact q0B.mpr ⟨q, xs, e1, by rw [q0y hq]; exact e4, e5.mono (q0O λ b hb => List.mem_cons_of_mem _ hb)⟩
end
section
variable {X : Cx} {E : St -> XK} {δ : List Sv} {e : Expr} {es : List Expr} {pos p : Pos} {re : Re} {rs : Option Rs}
theorem q3f {env : Env} {pos : Pos} : ∀ (es : List Expr), es.any q0s = false -> (backTo pos (starEach es env)).any (·.1) = false
 | [], _ => rfl
 | y :: ys, q => by
  rw [List.any_cons, Bool.or_eq_false_iff] at q
  rw [q0r q.1]
  show (false || (backTo pos (starEach ys env)).any (·.1)) = false
  rw [q3f ys q.2]; rfl
noncomputable def biR (X : Cx) (k : List (DV × Cl) -> Option Re) : List V -> Hp -> VK -> Prop := λ vs H Q => ∃ l re O W H0, k l = some re /\ Hid O W H0 H /\ GotL X.D O W H0 H l vs /\ ∃ d c, re = .ok d c /\ ∀ v H', Same H H' -> Got X.D O W H0 H' d c v -> Q v H'
theorem q6Q {k : List (DV × Cl) -> Option Re} {x : Str} {id : String} (hc : q1J X (.builtin id) (biR X k)) (hk : ∀ l re, k l = some re -> ∃ d c, re = .ok d c) (hg : Gl X x) (hm : X.mg x = none) (hv : bootBuiltins x = some (.builtin id)) (hn : x ≠ "__name__") (hdb : (x == ("__debug__" : Str)) = false)
  (ha : ∀ q, rs = some q -> PA X (e :: es) (dA X.D E δ q)) (hs : q0s e = false) (hss : es.any q0s = false) (h : Rs.thn rs k = some re) : PE X (.Call (.Name x p) (e :: es) [] pos) (dE X.D E δ re) :=
 q3E (λ _ hA => q3y hc hg hm hv hA hn hdb (q0r hs) (q3f es hss)) ha h λ O W H0 H vs Q l σ hl hd g p => by
  obtain ⟨d, c, rfl⟩ := hk l re hl
  exact ⟨l, _, O, W, H0, hl, hd, g, d, c, rfl, p⟩
theorem q8C {k : List (DV × Cl) -> Option Re} {x : Str} {T : String} (hc : q1J X (.type T) (biR X k)) (hk : ∀ l re, k l = some re -> ∃ d c, re = .ok d c) (hg : Gl X x) (hm : X.mg x = none) (hv : bootBuiltins x = some (.type T)) (hn : x ≠ "__name__") (hdb : (x == ("__debug__" : Str)) = false)
  (ha : ∀ q, rs = some q -> PA X (e :: es) (dA X.D E δ q)) (hs : q0s e = false) (hss : es.any q0s = false) (h : Rs.thn rs k = some re) : PE X (.Call (.Name x p) (e :: es) [] pos) (dE X.D E δ re) :=
 q3E (λ _ hA => q9h hc hg hm hv hA hn hdb (q0r hs) (q3f es hss)) ha h λ O W H0 H vs Q l σ hl hd g p => by
  obtain ⟨d, c, rfl⟩ := hk l re hl
  exact ⟨l, _, O, W, H0, hl, hd, g, d, c, rfl, p⟩
theorem z1P : ∀ l re, lenD l = some re -> ∃ d c, re = .ok d c := λ l re h => by unfold lenD at h; split at h <;> cases h <;> exact ⟨_, _, rfl⟩
theorem z2D : ∀ l re, absD l = some re -> ∃ d c, re = .ok d c := λ l re h => by unfold absD at h; split at h <;> cases h <;> exact ⟨_, _, rfl⟩
theorem z1C : ∀ l re, minD l = some re -> ∃ d c, re = .ok d c := λ l re h => by
 unfold minD at h
 split at h
 ·cases h; exact ⟨_, _, rfl⟩
 ·split at h
  ·cases h; exact ⟨_, _, rfl⟩
  ·split at h
   ·cases h; exact ⟨_, _, rfl⟩
   ·cases h
 ·split at h
  ·cases h; exact ⟨_, _, rfl⟩
  ·cases h
 ·cases h
theorem q3B {D : Dm} {H : Hp} : ∀ {ds : List DV} {ns : List Int} {xs : List V}, ints? ds = some ns -> RepL D H ds xs -> xs = ns.map V.int
 | [], ns, xs, h, r => by
  cases h
  exact q0v.mp r
 | .int i :: ds, ns, xs, h, r => by
  have h' : (ints? ds).map (i :: ·) = some ns := h
  obtain ⟨ms, e1, e2⟩ := Option.map_eq_some_iff.mp h'
  obtain ⟨v, vs, e3, e4, e5⟩ := q0j.mp r
  have q := q3B e1 e5
  rw [← e2, e3, List.map_cons, q0J.mp e4, q]
 | .non :: ds, ns, xs, h, _ => by cases h
 | .bl _ :: ds, ns, xs, h, _ => by cases h
 | .str _ :: ds, ns, xs, h, _ => by cases h
 | .tup _ :: ds, ns, xs, h, _ => by cases h
 | .lst _ :: ds, ns, xs, h, _ => by cases h
 | .dct _ _ :: ds, ns, xs, h, _ => by cases h
 | .exc _ :: ds, ns, xs, h, _ => by cases h
 | .fn _ :: ds, ns, xs, h, _ => by cases h
 | .scr _ :: ds, ns, xs, h, _ => by cases h
theorem q6L : ∀ (r : List Int) (m : Int), (minI m r = m \/ minI m r ∈ r) /\ minI m r <= m /\ ∀ x ∈ r, minI m r <= x
 | [], m => ⟨.inl rfl, Int.le_refl _, λ x h => by cases h⟩
 | y :: r, m => by
  obtain ⟨h0, h1, h2⟩ := q6L r (if y < m then y else m)
  unfold minI
  by_cases q : y < m
  ·rw [if_pos q] at h0 h1 h2 ⊢
   refine ⟨.inr ?_, by omega, λ x hx => ?_⟩
   ·rcases h0 with z | z
    ·rw [z]; exact List.mem_cons_self ..
    ·exact List.mem_cons_of_mem _ z
   ·rcases List.mem_cons.mp hx with z | z
    ·rw [z]; exact h1
    ·exact h2 x z
  ·rw [if_neg q] at h0 h1 h2 ⊢
   refine ⟨h0.imp id (List.mem_cons_of_mem _), h1, λ x hx => ?_⟩
   rcases List.mem_cons.mp hx with z | z
   ·rw [z]; omega
   ·exact h2 x z
theorem q6N {n M : Int} {r : List Int} (h1 : M ∈ n :: r) (h2 : ∀ x ∈ n :: r, M <= x) : M = minI n r := by
 obtain ⟨a, b, c⟩ := q6L r n
 have d : minI n r ∈ n :: r := a.elim (λ z => by rw [z]; exact List.mem_cons_self ..) (List.mem_cons_of_mem _)
 have e := h2 _ d
 have f : minI n r <= M := by
  rcases List.mem_cons.mp h1 with z | z
  ·rw [z]; exact b
  ·exact c M z
 omega
theorem z0p : ∀ l re, q6a l = some re -> ∃ d c, re = .ok d c := λ l re h => by unfold q6a at h; split at h <;> cases h <;> exact ⟨_, _, rfl⟩
theorem q9s : ∀ l re, q4q l = some re -> ∃ d c, re = .ok d c := λ l re h => by unfold q4q at h; split at h <;> cases h <;> exact ⟨_, _, rfl⟩
theorem z3r : q1J X (.builtin "len") (biR X lenD) := by
 intro pins s σ H xs us Q I r h
 obtain ⟨l, re, O, W, H0, hb, hd, g, d, c, rfl, p⟩ := h
 unfold lenD at hb
 split at hb
 ·cases hb
  obtain ⟨v, rfl, gv⟩ := g.one
  obtain ⟨a, ys, e1, e2, e3⟩ := gv.lst hd
  exact q2o pins s σ H _ us Q I r ⟨a, ys, by rw [e1], .inl (SqL.of e2), by rw [e3.length]; exact p _ H (Same.refl H) q0K⟩
 ·cases hb
  obtain ⟨v, rfl, gv⟩ := g.one
  obtain ⟨a, ys, e1, e2, e3⟩ := gv.tup hd
  exact q2o pins s σ H _ us Q I r ⟨a, ys, by rw [e1], .inr e2, by rw [e3.length]; exact p _ H (Same.refl H) q0K⟩
 ·cases hb
  obtain ⟨v, rfl, gv⟩ := g.one
  obtain ⟨a, e1, e2⟩ := q1S.mp (gv.all hd)
  exact q2o pins s σ H _ us Q I r ⟨a, _, by rw [e1], .inl e2.sq, by rw [List.length_map]; exact p _ H (Same.refl H) q0K⟩
 ·cases hb
  obtain ⟨v, rfl, gv⟩ := g.one
  obtain ⟨e1, e2⟩ := gv.str hd
  exact q5F pins s σ H _ us Q I r ⟨_, by rw [e1], e2, p _ H (Same.refl H) q0K⟩
 ·cases hb
theorem z3z : q1J X (.builtin "abs") (biR X absD) := by
 intro pins s σ H xs us Q I r h
 obtain ⟨l, re, O, W, H0, hb, hd, g, d, c, rfl, p⟩ := h
 unfold absD at hb
 split at hb
 ·cases hb
  obtain ⟨v, rfl, gv⟩ := g.one
  exact q9Q pins s σ H _ us Q I r ⟨_, by rw [gv.int hd], p _ H (Same.refl H) q0K⟩
 ·cases hb
theorem q5N : ∀ {ds : List DV} {ps : List (Int × Int × Int)} {i : Nat}, trips? ds = some ps -> i < ps.length -> ds[i]? = some (trD (ps.getD i (0, 0, 0)))
 | [], ps, i, h, hi => by cases h; simp at hi
 | d0 :: ds, ps, i, h, hi => by
  unfold trips? at h
  split at h
  ·rename_i q; cases q
  ·rename_i a b c r' q
   cases q
   obtain ⟨ms, e1, e2⟩ := Option.map_eq_some_iff.mp h
   subst e2
   cases i with
   | zero => rfl
   | succ i => exact q5N (ds := ds) e1 (by simpa using hi)
  ·cases h
theorem q5r {D : Dm} {H : Hp} : ∀ {ds : List DV} {ps : List (Int × Int × Int)} {xs : List V}, trips? ds = some ps -> RepL D H ds xs -> TrsV D.K H xs ps
 | [], ps, xs, h, r => by
  cases h
  rw [q0v.mp r]
  exact trivial
 | d0 :: ds, ps, xs, h, r => by
  unfold trips? at h
  split at h
  ·rename_i q; cases q
  ·rename_i a b c r' q
   cases q
   obtain ⟨ms, e1, e2⟩ := Option.map_eq_some_iff.mp h
   obtain ⟨v, vs, e3, e4, e5⟩ := q0j.mp r
   have q := q5r e1 e5
   obtain ⟨c', ys, f1, f2, f3⟩ := q0I.mp e4
   obtain ⟨v1, l1, g1, g2, g3⟩ := q0j.mp f3
   obtain ⟨v2, l2, g4, g5, g6⟩ := q0j.mp g3
   obtain ⟨v3, l3, g7, g8, g9⟩ := q0j.mp g6
   rw [← e2, e3]
   refine ⟨⟨c', f1, ?_⟩, q⟩
   rw [g1, g4, g7, q0v.mp g9, q0J.mp g2, q0J.mp g5, q0J.mp g8] at f2
   exact f2
  ·cases h
theorem TrsV.le {K : PySem.W.Frag} {H H' : Hp} (e : Same H H') : ∀ {vs : List V} {ps : List (Int × Int × Int)}, TrsV K H vs ps -> TrsV K H' vs ps
 | [], [], _ => trivial
 | _ :: _, _ :: _, x => by
  obtain ⟨⟨a, h1, h2⟩, h3⟩ := x
  exact ⟨⟨a, h1, e.tseq h2⟩, h3.le e⟩
 | [], _ :: _, x => x.elim
 | _ :: _, [], x => x.elim
theorem z3Z (hc : X.calm = true) (hu : X.A.units + 1 < cLine) : q1J X (.builtin "min") (biR X minD) := by
 intro pins s σ H xs us Q I r h
 obtain ⟨l, re, O, W, H0, hb, hd, g, d, c, rfl, p⟩ := h
 unfold minD at hb
 split at hb
 ·cases hb
  obtain ⟨v, v', rfl, gv, gv'⟩ := g.two
  exact q8q hc pins s σ H _ us Q I r ⟨_, _, by rw [gv.int hd, gv'.int hd], p _ H (Same.refl H) q0K⟩
 ·split at hb
  ·rename_i n r' hq
   cases hb
   obtain ⟨v, rfl, gv⟩ := g.one
   obtain ⟨a, ys, e1, e2, e3⟩ := gv.lst hd
   have e4 := q3B hq e3
   subst e4
   exact q7K hc pins s σ H _ us Q I r ⟨a, n :: r', by rw [e1], SqL.of e2, by simp, λ M m1 m2 => by rw [q6N m1 m2]; exact p _ H (Same.refl H) q0K⟩
  ·split at hb
   ·rename_i n r' hq
    cases hb
    obtain ⟨v, rfl, gv⟩ := g.one
    obtain ⟨a, ys, e1, e2, e3⟩ := gv.lstC hd
    refine q7W hc hu pins s σ H _ us Q I r ⟨a, ys, n, r', by rw [e1], SqL.of e2, (q5r hq e3).le q1w, λ i x f1 f2 f3 => p _ H (Same.refl H) ?_⟩
    obtain ⟨z, g1, g2⟩ := e3.get (q5N hq f3)
    rw [f1] at g1
    cases g1
    rw [f2] at g2
    exact Got.item g2
   ·cases hb
 ·split at hb
  ·rename_i n r' hq
   cases hb
   obtain ⟨v, rfl, gv⟩ := g.one
   obtain ⟨a, ys, e1, e2, e3⟩ := gv.tup hd
   have e4 := q3B hq e3
   subst e4
   exact q8U hc pins s σ H _ us Q I r ⟨a, n :: r', by rw [e1], e2, by simp, λ M m1 m2 => by rw [q6N m1 m2]; exact p _ H (Same.refl H) q0K⟩
  ·cases hb
 ·cases hb
theorem z3L (hc : X.calm = true) : q1J X (.builtin "sum") (biR X sumD) := by
 intro pins s σ H xs us Q I r h
 obtain ⟨l, re, O, W, H0, hb, hd, g, d, c, rfl, p⟩ := h
 unfold sumD at hb
 split at hb
 ·obtain ⟨ns, hq, e⟩ := Option.map_eq_some_iff.mp hb
  cases e
  obtain ⟨v, rfl, gv⟩ := g.one
  obtain ⟨a, ys, e1, e2, e3⟩ := gv.lst hd
  have e4 := q3B hq e3
  subst e4
  exact q8O hc pins s σ H _ us Q I r ⟨a, ns, by rw [e1], SqL.of e2, p _ H (Same.refl H) q0K⟩
 ·cases hb
theorem q8t : bootBuiltins "sum" = some (.builtin "sum") := by decide +kernel
theorem z1y : ∀ l re, sumD l = some re -> ∃ d c, re = .ok d c := by
 intro l re h
 unfold sumD at h
 split at h
 ·obtain ⟨_, _, e⟩ := Option.map_eq_some_iff.mp h
  cases e; exact ⟨_, _, rfl⟩
 ·cases h
theorem z1f : q1J X (.type "list") (biR X q6a) := by
 intro pins s σ H xs us Q I r h
 obtain ⟨l, re, O, W, H0, hb, hd, g, d, c, rfl, p⟩ := h
 unfold q6a at hb
 split at hb
 ·cases hb
  obtain ⟨v, rfl, gv⟩ := g.one
  obtain ⟨a, e1, e2⟩ := q1S.mp (gv.all hd)
  exact q2s pins s σ H _ us Q I r ⟨a, _, by rw [e1], .inl e2.sq, λ q hq => p _ _ (q0q hq) (q2k hd hq (q2t _))⟩
 ·cases hb
  obtain ⟨v, rfl, gv⟩ := g.one
  obtain ⟨a, ys, e1, e2, e3⟩ := gv.lstC hd
  exact q2s pins s σ H _ us Q I r ⟨a, ys, by rw [e1], .inl (SqL.of e2), λ q hq => p _ _ (q0q hq) (q3D hd hq e3)⟩
 ·cases hb
  obtain ⟨v, rfl, gv⟩ := g.one
  obtain ⟨a, ys, e1, e2, e3⟩ := gv.tupC hd
  exact q2s pins s σ H _ us Q I r ⟨a, ys, by rw [e1], .inr e2, λ q hq => p _ _ (q0q hq) (q3D hd hq e3)⟩
 ·cases hb
theorem q9N : q1J X (.type "tuple") (biR X q4q) := by
 intro pins s σ H xs us Q I r h
 obtain ⟨l, re, O, W, H0, hb, hd, g, d, c, rfl, p⟩ := h
 unfold q4q at hb
 split at hb
 ·cases hb
  obtain ⟨v, rfl, gv⟩ := g.one
  obtain ⟨a, ys, e1, e2, e3⟩ := gv.lstC hd
  exact q2W pins s σ H _ us Q I r ⟨a, ys, by rw [e1], .inl ⟨SqL.of e2, λ q hq => p _ _ (q0q hq) (q6Y hd hq e3)⟩⟩
 ·cases hb
  obtain ⟨v, rfl, gv⟩ := g.one
  obtain ⟨a, ys, e1, e2, e3⟩ := gv.tupC hd
  exact q2W pins s σ H _ us Q I r ⟨a, ys, by rw [e1], .inr ⟨e2, p _ _ (Same.refl H) (by rw [← e1]; exact gv)⟩⟩
 ·cases hb
end
noncomputable def tyS : DV -> Option String
 | .non => some "NoneType" | .bl _ => some "bool" | .int _ => some "int" | .str _ => some "str" | .tup _ => some "tuple" | .lst _ => some "list" | .dct _ _ => some "dict"
 | _ => none
noncomputable def z4u (T t : String) : Option Bool := if (Value.type T == Value.type t) = true then some true else if PySem.W.kitMeta t = true then (fastBuiltinMro T).map (·.contains (.type t)) else none
theorem q8G : (["NoneType", "bool", "int", "str", "tuple", "list", "dict"] : List String).all (λ T => (["int", "bool", "str", "list", "tuple", "dict"] : List String).all λ t => z4u T t == some (T == t || (T == "bool" && t == "int"))) = true := by decide +kernel
theorem q2P {K : PySem.W.Frag} (T t : String) (h1 : T ∈ ["NoneType", "bool", "int", "str", "tuple", "list", "dict"]) (h2 : t ∈ ["int", "bool", "str", "list", "tuple", "dict"]) :
  PySem.W.kitOne K (.type T) (.type t) = some (T == t || (T == "bool" && t == "int")) := by
 have q := List.all_eq_true.mp (List.all_eq_true.mp q8G T h1) t h2
 exact (show z4u T t = _ from by simpa using q)
section
variable {X : Cx} {E : St -> XK} {δ : List Sv} {e e' : Expr} {pos p p' : Pos} {re : Re} {ra : Option Re}
theorem z3T {pins : List (Addr × Obj)} {σ : St} {H : Hp} {s : Shared} {Q : Value -> Shared -> Prop} {EE : Value -> Shared -> Prop} {d : DV} {v : V} {u : Value} {T t : String} (I : Inv X pins σ H s) (r : Rep X.D H d v) (rv : RelV v u) (hT : tyS d = some T) (ht : t ∈ ["int", "bool", "str", "list", "tuple", "dict"])
  (h : ∀ tk, Q (.bool (T == t || (T == "bool" && t == "int"))) { s with toks := tk }) : wpAny (model X.prog X.w) X.A (call (.builtin "isinstance") [u, .type t]) Q EE s := by
 cases d with
 | non => cases hT; rw [q2L.mp r] at rv; cases rv; exact PySem.W.kia_one PySem.W.kitx_none I.kIn True.intro (q2P _ _ (by simp) ht) (λ z => nomatch z) h
 | bl b => cases hT; rw [q3n.mp r] at rv; cases rv; exact PySem.W.kia_one PySem.W.kitx_bool I.kIn True.intro (q2P _ _ (by simp) ht) (λ z => nomatch z) h
 | int b => cases hT; rw [q0J.mp r] at rv; obtain ⟨tk, rfl⟩ := rv; exact PySem.W.kia_one PySem.W.kitx_int I.kIn True.intro (q2P _ _ (by simp) ht) (λ z => nomatch z) h
 | str b => cases hT; rw [(q2c.mp r).1] at rv; obtain ⟨tk, rfl⟩ := rv; exact PySem.W.kia_one PySem.W.kitx_str I.kIn True.intro (q2P _ _ (by simp) ht) (λ z => nomatch z) h
 | tup ds =>
  cases hT
  obtain ⟨a, xs, e1, e2, e3⟩ := q0I.mp r
  rw [e1] at rv; cases rv
  obtain ⟨its, _, ⟨o, h1, h2, _⟩, _⟩ := I.tuple e2
  exact PySem.W.kia_one PySem.W.kitx_tuple I.kIn ⟨o, h1, h2⟩ (q2P _ _ (by simp) ht) (λ z => nomatch z) h
 | lst ds =>
  cases hT
  obtain ⟨a, xs, e1, e2, e3⟩ := q0B.mp r
  rw [e1] at rv; cases rv
  obtain ⟨_, its, n, _, _, h1⟩ := I.lstM e2
  exact PySem.W.kia_one PySem.W.kitx_list I.kIn ⟨_, h1, rfl⟩ (q2P _ _ (by simp) ht) (λ z => nomatch z) h
 | dct ks vs =>
  cases hT
  obtain ⟨a, kvs, e1, e2⟩ := q5X.mp r
  rw [e1] at rv; cases rv
  obtain ⟨_, _, _, _, ⟨o, _, _, h1, h2, _⟩⟩ := (show q1K X.prog X.w H s.heap a (.dK kvs) from I.hok a _ e2)
  exact PySem.W.kia_one PySem.W.kitx_dict I.kIn ⟨o, h1, h2.1⟩ (q2P _ _ (by simp) ht) (λ z => nomatch z) h
 | exc _ => cases hT
 | fn _ => cases hT
 | scr _ => cases hT
noncomputable def rIsi (X : Cx) : List V -> Hp -> VK -> Prop := λ xs H Q => ∃ d T t x, xs = [x, .ty t] /\ Rep X.D H d x /\ tyS d = some T /\ t ∈ ["int", "bool", "str", "list", "tuple", "dict"] /\ Q (.bl (T == t || (T == "bool" && t == "int"))) H
theorem q9F : q1J X (.builtin "isinstance") (rIsi X) := by
 intro pins s σ H xs us Q I r h
 obtain ⟨d, T, t, x, rfl, r1, hT, ht, q⟩ := h
 obtain ⟨u, w', rfl, ru, rw'⟩ := q7v r
 cases rw'
 exact z3T I r1 ru hT ht λ tk => ⟨.bl _, H, I.tok tk, rfl, q⟩
noncomputable def q3p : Str -> Option String := λ x => (["int", "bool", "str", "list", "tuple", "dict"] : List String).find? λ t => Str.ofString t == x
theorem q4D {x : Str} {t : String} (h : q3p x = some t) : bootBuiltins x = some (.type t) /\ t ∈ ["int", "bool", "str", "list", "tuple", "dict"] /\ Str.ofString t = x := by
 unfold q3p at h
 have h1 := List.find?_some h
 have h2 := List.mem_of_find?_eq_some h
 have h3 : Str.ofString t = x := by simpa using h1
 refine ⟨?_, h2, h3⟩
 subst h3
 simp only [List.mem_cons, List.not_mem_nil, or_false] at h2
 rcases h2 with rfl | rfl | rfl | rfl | rfl | rfl
 ·exact boot_int
 ·exact boot_bool
 ·exact boot_str
 ·exact boot_list
 ·exact boot_tuple
 ·exact boot_dict
noncomputable def q8j : String -> List Str
 | "NoneType" => ["NoneType"] | "bool" => ["bool", "int"] | "int" => ["int"] | "str" => ["str"] | "tuple" => ["tuple"] | "list" => ["list"] | "dict" => ["dict"]
 | _ => []
theorem q5T : (["NoneType", "bool", "int", "str", "tuple", "list", "dict"] : List String).all (λ T => (["int", "bool", "str", "list", "tuple", "dict"] : List String).all λ t => (q8j T).contains (Str.ofString t) == (T == t || (T == "bool" && t == "int"))) = true := by decide +kernel
theorem q9l {d : DV} {x : Str} {t T : String} (h : q3p x = some t) (hT : tyS d = some T) : (tyOf d).contains x = (T == t || (T == "bool" && t == "int")) := by
 obtain ⟨_, h2, h3⟩ := q4D h
 subst h3
 have key : ∀ T ∈ (["NoneType", "bool", "int", "str", "tuple", "list", "dict"] : List String), (q8j T).contains (Str.ofString t) = (T == t || (T == "bool" && t == "int")) := λ T hT => by
  have q := List.all_eq_true.mp (List.all_eq_true.mp q5T T hT) t h2
  simpa using q
 cases d <;> cases hT
 ·exact key "NoneType" (by simp)
 ·exact key "bool" (by simp)
 ·exact key "int" (by simp)
 ·exact key "str" (by simp)
 ·exact key "tuple" (by simp)
 ·exact key "list" (by simp)
 ·exact key "dict" (by simp)
theorem z2e {G : Gs} {x : Str} {t : String} (ht : q3p x = some t) (hg : Gl X "isinstance") (hm : X.mg "isinstance" = none) (hgx : Gl X x) (hmx : X.mg x = none) (hnx : x ≠ "__name__") (hdx : (x == ("__debug__" : Str)) = false)
  (ha : ∀ q, ra = some q -> PE X e (dE X.D E δ q)) (hs : q0s e = false) (h : (Re.thn ra λ y _ => (isiD G y [x]).map λ k => .ok (.bl k) .strong) = some re) : PE X (.Call (.Name "isinstance" p) [e, .Name x p'] [] pos) (dE X.D E δ re) := by
 obtain ⟨b1, b2, b3⟩ := q4D ht
 have T : PE X (.Name x p') (tC (.ty t)) := q4B hgx hmx b1 rfl hnx hdx
 have C := λ ta (hA : PE X e ta) => q3y (p := p) (pos := pos) q9F hg hm boot_isinstance (q1h hA (q1h T q3r) (q0r hs)) (by decide) (by decide) (q0r hs)
 cases hra : ra with
 | none => rw [hra] at h; cases h
 | some q =>
  rw [hra] at h
  have A := ha q hra
  cases q with
  | ex c => cases h; exact (C _ A).weak λ σ H Q ⟨O, W, R, p⟩ => ⟨O, W, R, p⟩
  | ok d cl =>
   obtain ⟨k, e1, e2⟩ := Option.map_eq_some_iff.mp (show ((isiD G d [x]).map λ k => Re.ok (.bl k) .strong) = some re from h)
   cases e2
   have key : ∃ T, tyS d = some T /\ k = (tyOf d).contains x := by
    unfold isiD at e1
    have px : q1i.contains x = true := by
     rw [← b3]
     simp only [List.mem_cons, List.not_mem_nil, or_false] at b2
     rcases b2 with rfl | rfl | rfl | rfl | rfl | rfl <;> decide +kernel
    cases d <;> first
     | (simp only [px, if_true] at e1; cases e1; exact ⟨_, rfl, rfl⟩)
     | cases e1
   obtain ⟨T, hT, hk⟩ := key
   exact (C _ A).weak λ σ H Q ⟨O, W, R, p⟩ => ⟨O, W, R, λ v H1 s1 g1 => ⟨d, T, t, v, rfl, g1.all (R.hid.mono s1), hT, b2, by rw [← q9l ht hT, ← hk]; exact p _ H1 s1 q2U⟩⟩
end
end L2
end
section
namespace L2
open PySem PySem.Spec PyProof.Rows
noncomputable def tyIs (T t : String) : Bool := T == t || (T == "bool" && t == "int")
theorem z1H {K : PySem.W.Frag} {T t1 t2 : String} (h : T ∈ ["NoneType", "bool", "int", "str", "tuple", "list", "dict"]) (h1 : t1 ∈ ["int", "bool", "str", "list", "tuple", "dict"]) (h2 : t2 ∈ ["int", "bool", "str", "list", "tuple", "dict"]) :
  PySem.W.kitAny K (.type T) [.type t1, .type t2] = some (tyIs T t1 || tyIs T t2) := by
 have e1 : PySem.W.kitOne K (.type T) (.type t1) = some (tyIs T t1) := q2P T t1 h h1
 have e2 : PySem.W.kitOne K (.type T) (.type t2) = some (tyIs T t2) := q2P T t2 h h2
 unfold PySem.W.kitAny
 rw [e1]
 cases tyIs T t1 with
 | true => rfl
 | false =>
  show PySem.W.kitAny K (.type T) [.type t2] = _
  unfold PySem.W.kitAny
  rw [e2]
  cases tyIs T t2 <;> rfl
section
variable {X : Cx} {E : St -> XK} {δ : List Sv} {e : Expr} {pos p : Pos} {ra : Option Re} {re : Re}
theorem z3R {pins : List (Addr × Obj)} {σ : St} {H : Hp} {s : Shared} {d : DV} {v : V} {u : Value} {T : String} (I : Inv X pins σ H s) (r : Rep X.D H d v) (rv : RelV v u) (hT : tyS d = some T) :
  ∃ HH : Heap -> Prop, PySem.W.KitX X.K u (.type T) HH /\ HH s.heap /\ u ≠ .builtin "__main__.__loader__#opaque" /\ T ∈ ["NoneType", "bool", "int", "str", "tuple", "list", "dict"] := by
 cases d with
 | non => cases hT; rw [q2L.mp r] at rv; cases rv; exact ⟨_, PySem.W.kitx_none, True.intro, (λ z => nomatch z), by simp⟩
 | bl b => cases hT; rw [q3n.mp r] at rv; cases rv; exact ⟨_, PySem.W.kitx_bool, True.intro, (λ z => nomatch z), by simp⟩
 | int b => cases hT; rw [q0J.mp r] at rv; obtain ⟨tk, rfl⟩ := rv; exact ⟨_, PySem.W.kitx_int, True.intro, (λ z => nomatch z), by simp⟩
 | str b => cases hT; rw [(q2c.mp r).1] at rv; obtain ⟨tk, rfl⟩ := rv; exact ⟨_, PySem.W.kitx_str, True.intro, (λ z => nomatch z), by simp⟩
 | tup ds =>
  cases hT
  obtain ⟨a, xs, e1, e2, e3⟩ := q0I.mp r
  rw [e1] at rv; cases rv
  obtain ⟨its, _, ⟨o, h1, h2, _⟩, _⟩ := I.tuple e2
  exact ⟨_, PySem.W.kitx_tuple, ⟨o, h1, h2⟩, (λ z => nomatch z), by simp⟩
 | lst ds =>
  cases hT
  obtain ⟨a, xs, e1, e2, e3⟩ := q0B.mp r
  rw [e1] at rv; cases rv
  obtain ⟨_, its, n, _, _, h1⟩ := I.lstM e2
  exact ⟨_, PySem.W.kitx_list, ⟨_, h1, rfl⟩, (λ z => nomatch z), by simp⟩
 | dct ks vs =>
  cases hT
  obtain ⟨a, kvs, e1, e2⟩ := q5X.mp r
  rw [e1] at rv; cases rv
  obtain ⟨_, _, _, _, ⟨o, _, _, h1, h2, _⟩⟩ := (show q1K X.prog X.w H s.heap a (.dK kvs) from I.hok a _ e2)
  exact ⟨_, PySem.W.kitx_dict, ⟨o, h1, h2.1⟩, (λ z => nomatch z), by simp⟩
 | exc _ => cases hT
 | fn _ => cases hT
 | scr _ => cases hT
noncomputable def z5W (X : Cx) : List V -> Hp -> VK -> Prop := λ xs H Q => ∃ d T t1 t2 x q, xs = [x, .ref q] /\ Rep X.D H d x /\ tyS d = some T /\ t1 ∈ ["int", "bool", "str", "list", "tuple", "dict"] /\ t2 ∈ ["int", "bool", "str", "list", "tuple", "dict"] /\ H q = some (.tup [.ty t1, .ty t2]) /\ Q (.bl (tyIs T t1 || tyIs T t2)) H
theorem q7S : q1J X (.builtin "isinstance") (z5W X) := by
 intro pins s σ H xs us Q I r h
 obtain ⟨d, T, t1, t2, x, q, rfl, r1, hT, h1, h2, hq, k⟩ := h
 obtain ⟨u, w', rfl, ru, rw'⟩ := q7v r
 cases rw'
 obtain ⟨HH, Z, z1, z2, z3⟩ := z3R I r1 ru hT
 obtain ⟨its, ri, ⟨⟨oc, od, oda, osl⟩, o1, o2, n, o3⟩, _⟩ := I.tuple (SqT.of hq)
 obtain ⟨u1, u2, e, v1, v2⟩ := q7v ri
 have o2' : oc = .type "tuple" := o2
 have o3' : oda = .seq its.toArray n := o3
 subst o2' o3'
 cases v1; cases v2
 subst e
 exact PySem.W.kia_tup Z I.kIn z1 o1 (z1H z3 h1 h2) z2 λ tk => ⟨.bl _, H, I.tok tk, rfl, k⟩
theorem z0v {x1 x2 : Str} {t1 t2 : String} {p1 p2 tp : Pos} {kk : Nat} {kf : DV -> Option Bool} (h1 : q3p x1 = some t1) (h2 : q3p x2 = some t2) (hg : Gl X "isinstance") (hm : X.mg "isinstance" = none)
  (g1 : Gl X x1) (m1 : X.mg x1 = none) (n1 : x1 ≠ "__name__") (d1 : (x1 == ("__debug__" : Str)) = false) (g2 : Gl X x2) (m2 : X.mg x2 = none) (n2 : x2 ≠ "__name__") (d2 : (x2 == ("__debug__" : Str)) = false)
  (hkf : ∀ d k, kf d = some k -> ∃ T, tyS d = some T /\ k = ((tyOf d).contains x1 || (tyOf d).contains x2))
  (ha : ∀ q, ra = some q -> PE X e (dE X.D E δ q)) (hs : q0s e = false) (h : (Re.thn ra λ y _ => (kf y).map λ k => .ok (.bl k) .strong) = some re) :
  PE X (.Call (.Name "isinstance" p) [e, .Tuple [.Name x1 p1, .Name x2 p2] kk tp] [] pos) (dE X.D E δ re) := by
 obtain ⟨b1, b2, b3⟩ := q4D h1
 obtain ⟨c1, c2, c3⟩ := q4D h2
 have T1 : PE X (.Name x1 p1) (tC (.ty t1)) := q4B g1 m1 b1 rfl n1 d1
 have T2 : PE X (.Name x2 p2) (tC (.ty t2)) := q4B g2 m2 c1 rfl n2 d2
 have TT := q6I (pos := tp) (x1 := kk) (q1h T1 (q1h T2 q3r))
 have C := λ ta (hA : PE X e ta) => q3y (p := p) (pos := pos) q7S hg hm boot_isinstance (q1h hA (q1h TT q3r) (q0r hs)) (by decide) (by decide) (q0r hs)
 cases hra : ra with
 | none => rw [hra] at h; cases h
 | some q =>
  rw [hra] at h
  have A := ha q hra
  cases q with
  | ex c => cases h; exact (C _ A).weak λ σ H Q ⟨O, W, R, p⟩ => ⟨O, W, R, p⟩
  | ok d cl =>
   obtain ⟨k, e1, e2⟩ := Option.map_eq_some_iff.mp (show ((kf d).map λ k => Re.ok (.bl k) .strong) = some re from h)
   cases e2
   obtain ⟨T, hT, hk⟩ := hkf d k e1
   have ek : k = (tyIs T t1 || tyIs T t2) := by rw [hk, q9l h1 hT, q9l h2 hT]; rfl
   exact (C _ A).weak λ σ H Q ⟨O, W, R, p⟩ => ⟨O, W, R, λ v H1 s1 g1 => ⟨show (2 : Nat) <= sizeLine by decide, λ q hq => ⟨d, T, t1, t2, v, q, rfl, (g1.all (R.hid.mono s1)).mono (q0q hq), hT, b2, c2, q0V, by rw [← ek]; exact p _ _ (s1.trans (q0q hq)) q2U⟩⟩⟩
end
end L2
end
section
namespace L2
open PySem PySem.Spec PyProof.Rows
structure Wk (D : Dm) (J : It) (ds : List DV) (Oc Oi : List Addr) (H1 : Hp) : Prop where
 go : ∀ i H, Same (L2.wo Oc H1) (L2.wo Oc H) -> i < ds.length -> J.go i H
 same : ∀ i H x H', J.yld i H x H' -> Same H H'
 yld : ∀ i H x H' d O2, Same (L2.wo Oc H1) (L2.wo Oc H) -> Same (L2.wo Oi H1) (L2.wo Oi H) -> J.yld i H x H' -> ds[i]? = some d -> (∀ a ∈ O2, H a ≠ none /\ (a ∈ Oi \/ H1 a = none)) -> Rep D (L2.wo O2 H') d x
 stop : ∀ H, Same (L2.wo Oc H1) (L2.wo Oc H) -> J.stop ds.length H
noncomputable def hidW (O W : List Addr) : Cl -> List Addr
 | .top => O
 | .weak => O
 | _ => O ++ W
noncomputable def z5u (D : Dm) (E : St -> XK) (σ : St) (O W : List Addr) (H : Hp) (R : It -> Hp -> Prop) : Ri -> Prop
 | .ok ds c => ∀ J H', Same H H' -> Wk D J ds (hidW O W c) (q1C O W c) H' -> R J H'
 | .ex c => ∀ H' C, D.mg c = some C -> Same H H' -> E σ C none H'
noncomputable def dI (D : Dm) (E : St -> XK) (δ : List Sv) (r : Ri) : TI := λ σ H R => ∃ O W, RSt D H σ δ O W /\ z5u D E σ O W H R r
theorem PI.weak {X : Cx} {tg iter : Expr} {t t' : TI} (h : PI X tg iter t) (k : ∀ σ H R, t' σ H R -> t σ H R) : PI X tg iter t' := λ pins s σ H R I q => h pins s σ H R I (k σ H R q)
theorem z0L {O O2 : List Addr} {H1 H : Hp} (s : Same (L2.wo O H1) (L2.wo O H)) (h : ∀ a ∈ O2, H a ≠ none /\ (a ∈ O \/ H1 a = none)) : Same (L2.wo O H1) (L2.wo O2 H) := λ b o e => by
 have q := s b o e
 obtain ⟨hb, e⟩ := q1c e
 obtain ⟨_, q⟩ := q1c q
 rw [q0y λ z => ?_]
 ·exact q
 ·rcases (h b z).2 with w | w
  ·exact hb w
  ·rw [w] at e; cases e
theorem Wk.list {D : Dm} {ds : List DV} {Oc Oi : List Addr} {H1 : Hp} {a : Addr} {xs : List V} (h : SqL D.K (L2.wo Oc H1) a xs) (r : RepL D (L2.wo Oi H1) ds xs) : Wk D (Itl D.K a) ds Oc Oi H1 where
 go := λ i H s hi => ⟨xs, xs[i]'(by rw [r.length]; exact hi), q1w.seq (s.seq h), List.getElem?_eq_getElem _⟩
 same := λ i H x H' y => by rw [y.1]; exact Same.refl _
 yld := λ i H x H' d O2 s s' y e ho => by
  obtain ⟨e1, y⟩ := y
  subst e1
  obtain ⟨v, q1, q2⟩ := r.get e
  have := y xs (q1w.seq (s.seq h))
  rw [q1] at this; cases this
  exact q2.mono (z0L s' ho)
 stop := λ H s => ⟨xs, q1w.seq (s.seq h), by rw [r.length]; exact Nat.le_refl _⟩
theorem Wk.tup {D : Dm} {ds : List DV} {Oc Oi : List Addr} {H1 : Hp} {a : Addr} {xs : List V} (h : SqT D.K (L2.wo Oc H1) a xs) (r : RepL D (L2.wo Oi H1) ds xs) : Wk D (Itt D.K a) ds Oc Oi H1 where
 go := λ i H s hi => ⟨xs, xs[i]'(by rw [r.length]; exact hi), q1w.tseq (s.tseq h), List.getElem?_eq_getElem _⟩
 same := λ i H x H' y => by rw [y.1]; exact Same.refl _
 yld := λ i H x H' d O2 s s' y e ho => by
  obtain ⟨e1, y⟩ := y
  subst e1
  obtain ⟨v, q1, q2⟩ := r.get e
  have := y xs (q1w.tseq (s.tseq h))
  rw [q1] at this; cases this
  exact q2.mono (z0L s' ho)
 stop := λ H s => ⟨xs, q1w.tseq (s.tseq h), by rw [r.length]; exact Nat.le_refl _⟩
theorem q2M (lo : Int) (n : Nat) : (upTo lo n).length = n := by unfold upTo; rw [List.length_map, List.length_range]
theorem q9x {lo : Int} {n i : Nat} {d : DV} (h : (upTo lo n)[i]? = some d) : i < n /\ d = .int (lo + i) := by
 have hl : i < n := by have := (List.getElem?_eq_some_iff.mp h).1; rw [q2M] at this; exact this
 unfold upTo at h
 rw [List.getElem?_map, List.getElem?_range hl] at h
 cases h
 exact ⟨hl, rfl⟩
theorem Wk.range {D : Dm} {Oc Oi : List Addr} {H1 : Hp} (lo : Int) (n : Nat) : Wk D (Itr lo n) (upTo lo n) Oc Oi H1 where
 go := λ i H s hi => by rw [q2M] at hi; exact hi
 same := λ i H x H' y => by rw [y.1]; exact Same.refl _
 yld := λ i H x H' d O2 s s' y e ho => by
  obtain ⟨e1, y⟩ := y
  subst e1
  obtain ⟨_, e2⟩ := q9x e
  subst e2
  exact q0J.mpr y
 stop := λ H s => by rw [q2M]; exact Nat.le_refl _
theorem q2h (hi : Int) (n : Nat) : (q4n hi n).length = n := by unfold q4n; rw [List.length_map, List.length_range]
theorem q7i {hi : Int} {n i : Nat} {d : DV} (h : (q4n hi n)[i]? = some d) : i < n /\ d = .int (hi - i) := by
 have hl : i < n := by have := (List.getElem?_eq_some_iff.mp h).1; rw [q2h] at this; exact this
 unfold q4n at h
 rw [List.getElem?_map, List.getElem?_range hl] at h
 cases h
 exact ⟨hl, rfl⟩
theorem Wk.down {D : Dm} {Oc Oi : List Addr} {H1 : Hp} (hi : Int) (n : Nat) : Wk D (Itd hi n) (q4n hi n) Oc Oi H1 where
 go := λ i H s h => by rw [q2h] at h; exact h
 same := λ i H x H' y => by rw [y.1]; exact Same.refl _
 yld := λ i H x H' d O2 s s' y e ho => by
  obtain ⟨e1, y⟩ := y
  subst e1
  obtain ⟨_, e2⟩ := q7i e
  subst e2
  exact q0J.mpr y
 stop := λ H s => by rw [q2h]; exact Nat.le_refl _
section
variable {X : Cx} {E : St -> XK} {δ : List Sv} {tg e e' : Expr} {es : List Expr} {pos p : Pos} {ra rb : Option Re} {rs : Option Rs} {ri : Ri}
theorem Got.walkL {D : Dm} {O W : List Addr} {H0 H : Hp} {ds : List DV} {c : Cl} {v : V} (g : Got D O W H0 H (.lst ds) c v) (hd : Hid O W H0 H) : ∃ a xs, v = .ref a /\ SqL D.K (L2.wo (hidW O W c) H) a xs /\ RepL D (L2.wo (q1C O W c) H) ds xs := by
 cases c with
 | weak => obtain ⟨a, xs, e1, e2, e3⟩ := q0B.mp g; exact ⟨a, xs, e1, SqL.of e2, e3⟩
 | top => obtain ⟨a, xs, e1, e0, e2, e3⟩ := g; exact ⟨a, xs, e1, SqL.of e2, e3⟩
 | strong => obtain ⟨a, xs, e1, e2, e3⟩ := q0B.mp g; exact ⟨a, xs, e1, SqL.of e2, e3⟩
 | fresh => obtain ⟨a, xs, e1, e2, e3⟩ := q0B.mp (g.strong hd); exact ⟨a, xs, e1, SqL.of e2, e3⟩
 | ft => obtain ⟨a, xs, e1, e2, e3⟩ := q0B.mp (g.ft hd); exact ⟨a, xs, e1, SqL.of e2, e3⟩
theorem Got.walkT {D : Dm} {O W : List Addr} {H0 H : Hp} {ds : List DV} {c : Cl} {v : V} (g : Got D O W H0 H (.tup ds) c v) (hd : Hid O W H0 H) : ∃ a xs, v = .ref a /\ SqT D.K (L2.wo (hidW O W c) H) a xs /\ RepL D (L2.wo (q1C O W c) H) ds xs := by
 cases c with
 | weak => exact q0I.mp g
 | top =>
  obtain ⟨a, xs, e1, e2, e3⟩ := q0I.mp (show Rep D (L2.wo (O ++ W) H) (.tup ds) v from g)
  exact ⟨a, xs, e1, (q0O q5u).tseq e2, e3⟩
 | strong => exact q0I.mp g
 | fresh => obtain ⟨_, _, _, _, q, _⟩ := g; cases q
 | ft => exact q0I.mp (g.ft hd)
theorem Got.walkS {D : Dm} {O W : List Addr} {H0 H : Hp} {ns : List Int} {c : Cl} {v : V} (g : Got D O W H0 H (.scr ns) c v) (hd : Hid O W H0 H) : ∃ a, v = .ref a /\ SqL D.K (L2.wo (hidW O W c) H) a (ns.map V.int) := by
 cases c with
 | weak => obtain ⟨a, e1, e2⟩ := q1S.mp g; exact ⟨a, e1, e2.sq⟩
 | top => obtain ⟨a, e1, e2⟩ := q1S.mp (show Rep D (L2.wo (O ++ W) H) (.scr ns) v from g); exact ⟨a, e1, (q0O q5u).seq e2.sq⟩
 | strong => obtain ⟨a, e1, e2⟩ := q1S.mp g; exact ⟨a, e1, e2.sq⟩
 | fresh => obtain ⟨_, _, _, _, q, _⟩ := g; cases q
 | ft => obtain ⟨a, e1, e2⟩ := q1S.mp (g.ft hd); exact ⟨a, e1, e2.sq⟩
theorem q6B (ha : ∀ q, ra = some q -> PE X e (dE X.D E δ q)) (h : q1l ra = some ri) : PI X tg e (dI X.D E δ ri) := by
 cases hra : ra with
 | none => rw [hra] at h; cases h
 | some q =>
  rw [hra] at h
  have A := ha q hra
  cases q with
  | ex c => cases h; exact (q6b A).weak λ σ H R' ⟨O, W, R, p⟩ => ⟨O, W, R, p⟩
  | ok d c =>
   obtain ⟨ds, e1, e2⟩ := Option.map_eq_some_iff.mp (show ((seqD d).map λ ds => Ri.ok ds c) = some ri from h)
   cases e2
   unfold seqD at e1
   split at e1
   ·cases e1
    exact (q6b A).weak λ σ H R' ⟨O, W, R, p⟩ => ⟨O, W, R, λ v H1 s1 g1 => by
     obtain ⟨a, e1, e2⟩ := g1.walkS (R.hid.mono s1)
     exact ⟨a, e1, ⟨_, q1w.seq e2⟩, p _ H1 s1 (.list e2 (q2t _))⟩⟩
   ·cases e1
    exact (q6b A).weak λ σ H R' ⟨O, W, R, p⟩ => ⟨O, W, R, λ v H1 s1 g1 => by
     obtain ⟨a, xs, e1, e2, e3⟩ := g1.walkL (R.hid.mono s1)
     exact ⟨a, e1, ⟨xs, q1w.seq e2⟩, p _ H1 s1 (.list e2 e3)⟩⟩
   ·cases e1
    exact (z3B A).weak λ σ H R' ⟨O, W, R, p⟩ => ⟨O, W, R, λ v H1 s1 g1 => by
     obtain ⟨a, xs, e1, e2, e3⟩ := g1.walkT (R.hid.mono s1)
     exact ⟨a, e1, ⟨xs, q1w.tseq e2⟩, p _ H1 s1 (.tup e2 e3)⟩⟩
   ·cases e1
theorem q1U {i : Int} (h : q1m i = true) : -(2 ^ 62) <= i /\ i < 2 ^ 62 := by
 unfold q1m at h
 simpa [Bool.and_eq_true] using h
theorem q5b {o : Option (List DV)} {ri : Ri} (h : q1l (o.map λ ds => Re.ok (.lst ds) .fresh) = some ri) : ∃ ds, o = some ds /\ ri = .ok ds .fresh := by
 cases o with
 | none => cases h
 | some ds => cases h; exact ⟨ds, rfl, rfl⟩
theorem q7r (hg : Gl X "range") (hm : X.mg "range" = none) (ha : ∀ q, rs = some q -> PA X [e] (dA X.D E δ q)) (hs : q0s e = false) (h : q1l (Rs.thn rs λ l => (rngD l).map λ ds => Re.ok (.lst ds) .fresh) = some ri) (hl : ∀ l, rs = some (.ok l) -> l.length = 1) :
  PI X tg (.Call (.Name "range" p) [e] [] pos) (dI X.D E δ ri) := by
 have C := λ t (hA : PA X [e] t) => q8x (tg := tg) (p := p) (pos := pos) hg hm hA (q0r hs)
 cases hrs : rs with
 | none => rw [hrs] at h; cases h
 | some q =>
  rw [hrs] at h
  have A := ha q hrs
  cases q with
  | ex c => cases h; exact (C _ A).weak λ σ H R' ⟨O, W, R, p⟩ => ⟨O, W, R, p⟩
  | ok l =>
   have l1 := hl l hrs
   obtain ⟨ds, e1, e2⟩ := q5b (show q1l ((rngD l).map λ ds => Re.ok (.lst ds) .fresh) = some ri from h)
   cases e2
   unfold rngD at e1
   split at e1
   ·rename_i j c
    split at e1
    ·rename_i m
     cases e1
     rw [Bool.and_eq_true] at m
     have q := q1U m.1
     exact (C _ A).weak λ σ H R' ⟨O, W, R, p⟩ => ⟨O, W, R, λ vs H1 s1 g1 => by
      obtain ⟨v, rfl, gv⟩ := g1.one
      exact ⟨j, by rw [gv.int (R.hid.mono s1)], q.1, q.2, p _ H1 s1 (.range _ _)⟩⟩
    ·cases e1
   ·cases l1
   ·cases l1
   ·cases e1
theorem q7e (hg : Gl X "range") (hm : X.mg "range" = none) (ha : ∀ q, rs = some q -> PA X [e, e'] (dA X.D E δ q)) (hs : q0s e = false) (hs' : q0s e' = false) (h : q1l (Rs.thn rs λ l => (rngD l).map λ ds => Re.ok (.lst ds) .fresh) = some ri) (hl : ∀ l, rs = some (.ok l) -> l.length = 2) :
  PI X tg (.Call (.Name "range" p) [e, e'] [] pos) (dI X.D E δ ri) := by
 have C := λ t (hA : PA X [e, e'] t) => q8f (tg := tg) (p := p) (pos := pos) hg hm hA (by rw [q0r hs, q0r hs']; rfl) (q0r hs')
 cases hrs : rs with
 | none => rw [hrs] at h; cases h
 | some q =>
  rw [hrs] at h
  have A := ha q hrs
  cases q with
  | ex c => cases h; exact (C _ A).weak λ σ H R' ⟨O, W, R, p⟩ => ⟨O, W, R, p⟩
  | ok l =>
   have l1 := hl l hrs
   obtain ⟨ds, e1, e2⟩ := q5b (show q1l ((rngD l).map λ ds => Re.ok (.lst ds) .fresh) = some ri from h)
   cases e2
   unfold rngD at e1
   split at e1
   ·cases l1
   ·rename_i i c j c'
    split at e1
    ·rename_i m
     cases e1
     rw [Bool.and_eq_true, Bool.and_eq_true] at m
     have q := q1U m.1.1
     have q' := q1U m.1.2
     exact (C _ A).weak λ σ H R' ⟨O, W, R, p⟩ => ⟨O, W, R, λ vs H1 s1 g1 => by
      obtain ⟨v, v', rfl, gv, gv'⟩ := g1.two
      exact ⟨i, j, by rw [gv.int (R.hid.mono s1), gv'.int (R.hid.mono s1)], ⟨q.1, q.2, q'.1, q'.2⟩, p _ H1 s1 (.range _ _)⟩⟩
    ·cases e1
   ·cases l1
   ·cases e1
theorem q7j {e'' : Expr} (hg : Gl X "range") (hm : X.mg "range" = none) (ha : ∀ q, rs = some q -> PA X [e, e', e''] (dA X.D E δ q)) (hs : q0s e = false) (hs' : q0s e' = false) (hs'' : q0s e'' = false) (h : q1l (Rs.thn rs λ l => (rngD l).map λ ds => Re.ok (.lst ds) .fresh) = some ri) (hl : ∀ l, rs = some (.ok l) -> l.length = 3) :
  PI X tg (.Call (.Name "range" p) [e, e', e''] [] pos) (dI X.D E δ ri) := by
 have C := λ t (hA : PA X [e, e', e''] t) => q8Y (tg := tg) (p := p) (pos := pos) hg hm hA (by rw [q0r hs, q0r hs', q0r hs'']; rfl) (by rw [q0r hs', q0r hs'']; rfl)
 cases hrs : rs with
 | none => rw [hrs] at h; cases h
 | some q =>
  rw [hrs] at h
  have A := ha q hrs
  cases q with
  | ex c => cases h; exact (C _ A).weak λ σ H R' ⟨O, W, R, p⟩ => ⟨O, W, R, p⟩
  | ok l =>
   have l1 := hl l hrs
   obtain ⟨ds, e1, e2⟩ := q5b (show q1l ((rngD l).map λ ds => Re.ok (.lst ds) .fresh) = some ri from h)
   cases e2
   unfold rngD at e1
   split at e1
   ·cases l1
   ·cases l1
   ·rename_i i c j c' k c''
    split at e1
    ·rename_i m
     cases e1
     rw [Bool.and_eq_true, Bool.and_eq_true, Bool.and_eq_true, decide_eq_true_eq, decide_eq_true_eq] at m
     have q := q1U m.1.1.1
     have q' := q1U m.1.1.2
     have k1 := m.2
     subst k1
     exact (C _ A).weak λ σ H R' ⟨O, W, R, p⟩ => ⟨O, W, R, λ vs H1 s1 g1 => by
      obtain ⟨v, v', v'', rfl, gv, gv', gv''⟩ := g1.three
      exact ⟨i, j, by rw [gv.int (R.hid.mono s1), gv'.int (R.hid.mono s1), gv''.int (R.hid.mono s1)], ⟨q.1, q.2, q'.1, q'.2⟩, p _ H1 s1 (.down _ _)⟩⟩
    ·cases e1
   ·cases e1
end
noncomputable def q6D : List Nat -> TGs
 | [] => gNil
 | i :: is => z2X (q7y i) (q6D is)
noncomputable def gT (K : PySem.W.Frag) : Tg -> TG
 | .one i => q7y i
 | .many is => gTup K is.length (q6D is)
theorem RSt.setVal {D : Dm} {H : Hp} {σ : St} {δ : List Sv} {O W : List Addr} {v : V} {d : DV} (R : RSt D H σ δ O W) (r : Rep D (L2.wo (O ++ W) H) d v) (i : Nat) : RSt D H (σ.set i (some v)) (δ.set i (.val d)) O W where
 val := λ j d' h => by
  by_cases hj : j = i
  ·subst hj
   have hl : j < δ.length := by
    have := (List.getElem?_eq_some_iff.mp h).1
    rw [List.length_set] at this; exact this
   rw [List.getElem?_set_self hl] at h
   cases h
   exact ⟨v, List.getElem?_set_self (by rw [R.len]; exact hl), r⟩
  ·rw [List.getElem?_set_ne (Ne.symm hj)] at h ⊢
   exact R.val j d' h
 own := λ j ds' h => by
  by_cases hj : j = i
  ·subst hj
   have hl : j < δ.length := by
    have := (List.getElem?_eq_some_iff.mp h).1
    rw [List.length_set] at this; exact this
   rw [List.getElem?_set_self hl] at h
   cases h
  ·rw [List.getElem?_set_ne (Ne.symm hj)] at h ⊢
   exact R.own j ds' h
 inj := λ j k a d1 d2 h1 h2 e1 e2 => by
  have ne : ∀ {j : Nat} {d1 : DV}, (δ.set i (.val d))[j]? = some (.own d1) -> j ≠ i := λ {j d1} h1 z => by
   subst z
   have hl : j < δ.length := by
    have := (List.getElem?_eq_some_iff.mp h1).1
    rw [List.length_set] at this; exact this
   rw [List.getElem?_set_self hl] at h1
   cases h1
  have n1 := ne h1
  have n2 := ne h2
  rw [List.getElem?_set_ne (Ne.symm n1)] at h1 e1
  rw [List.getElem?_set_ne (Ne.symm n2)] at h2 e2
  exact R.inj j k a d1 d2 h1 h2 e1 e2
 ot := λ j d' h => by
  have ne : ∀ {j : Nat} {s : Sv}, (∀ d, s ≠ .val d) -> (δ.set i (.val d))[j]? = some s -> j ≠ i := λ {j s} hs h1 z => by
   subst z
   have hl : j < δ.length := by
    have := (List.getElem?_eq_some_iff.mp h1).1
    rw [List.length_set] at this; exact this
   rw [List.getElem?_set_self hl] at h1
   cases h1
   exact hs _ rfl
  have nj := ne (by intro d z; cases z) h
  rw [List.getElem?_set_ne (Ne.symm nj)] at h ⊢
  obtain ⟨⟨t, ts, p, xs, ds, es, e0, e1, e2, e3, e4, e5, e6, e7⟩, u⟩ := R.ot j d' h
  refine ⟨⟨t, ts, p, xs, ds, es, e0, e1, e2, e3, e4, e5, e6, λ k d2 q => ?_⟩, λ k d2 q => ?_⟩
  ·have nk := ne (by intro d z; cases z) q
   rw [List.getElem?_set_ne (Ne.symm nk)] at q ⊢
   exact e7 k d2 q
  ·have nk := ne (by intro d z; cases z) q
   rw [List.getElem?_set_ne (Ne.symm nk)] at q
   exact u k d2 q
 o2 := λ j d' h => by
  have ne : ∀ {j : Nat} {s : Sv}, (∀ d, s ≠ .val d) -> (δ.set i (.val d))[j]? = some s -> j ≠ i := λ {j s} hs h1 z => by
   subst z
   have hl : j < δ.length := by
    have := (List.getElem?_eq_some_iff.mp h1).1
    rw [List.length_set] at this; exact this
   rw [List.getElem?_set_self hl] at h1
   cases h1
   exact hs _ rfl
  have nj := ne (by intro d z; cases z) h
  rw [List.getElem?_set_ne (Ne.symm nj)] at h ⊢
  obtain ⟨⟨p, L, e0, e1, e2, e3⟩, u, n⟩ := R.o2 j d' h
  refine ⟨⟨p, L, e0, e1, e2, λ k d2 a q q2 => ?_⟩, λ k d2 q => ?_, λ k d2 q => ?_⟩
  ·have nk := ne (by intro d z; cases z) q
   rw [List.getElem?_set_ne (Ne.symm nk)] at q q2
   exact e3 k d2 a q q2
  ·have nk := ne (by intro d z; cases z) q
   rw [List.getElem?_set_ne (Ne.symm nk)] at q
   exact u k d2 q
  ·have nk := ne (by intro d z; cases z) q
   rw [List.getElem?_set_ne (Ne.symm nk)] at q
   exact n k d2 q
 len := by rw [List.length_set, List.length_set]; exact R.len
 hid := R.hid
theorem q5A {D : Dm} {H : Hp} {O W : List Addr} {Q : St -> Hp -> Prop} : ∀ {is : List Nat} {ds : List DV} {xs : List V} {σ : St} {δ δ' : List Sv}, RSt D H σ δ O W -> RepL D (L2.wo (O ++ W) H) ds xs -> q4y δ is ds = some δ' -> (∀ σ', RSt D H σ' δ' O W -> Q σ' H) -> q6D is xs σ H Q
 | [], [], xs, σ, δ, δ', R, r, h, q => by cases h; exact ⟨q0v.mp r, q σ R⟩
 | i :: is, d :: ds, xs, σ, δ, δ', R, r, h, q => by
  obtain ⟨v, vs, e1, e2, e3⟩ := q0j.mp r
  exact ⟨v, vs, e1, q5A (R.setVal e2 i) e3 h q⟩
 | [], _ :: _, _, _, _, _, _, _, h, _ => by cases h
 | _ :: _, [], _, _, _, _, _, _, h, _ => by cases h
theorem q2d : ∀ {is : List Nat} {ds : List DV} {δ δ' : List Sv}, q4y δ is ds = some δ' -> is.length = ds.length /\ δ'.length = δ.length
 | [], [], _, _, h => by cases h; exact ⟨rfl, rfl⟩
 | i :: is, d :: ds, δ, δ', h => by
  obtain ⟨a, b⟩ := q2d (is := is) h
  exact ⟨by rw [List.length_cons, List.length_cons, a], by rw [b, List.length_set]⟩
 | [], _ :: _, _, _, h => by cases h
 | _ :: _, [], _, _, h => by cases h
theorem q5R {D : Dm} {H : Hp} {O W : List Addr} {Q : St -> Hp -> Prop} {tg : Tg} {d : DV} {x : V} {σ : St} {δ δ' : List Sv} (R : RSt D H σ δ O W) (r : Rep D (L2.wo (O ++ W) H) d x) (h : tg.bind d δ = some δ') (q : ∀ σ', RSt D H σ' δ' O W -> Q σ' H) : gT D.K tg x σ H Q := by
 cases tg with
 | one i => cases h; exact q _ (R.setVal r i)
 | many is =>
  unfold Tg.bind at h
  dsimp only at h
  split at h
  ·rename_i ds
   obtain ⟨a, xs, e1, e2, e3⟩ := q0I.mp r
   exact ⟨a, xs, e1, q1w.tseq e2, by rw [e3.length, (q2d h).1], q5A R e3 h q⟩
  ·cases h
theorem RSt.less {D : Dm} {H : Hp} {σ : St} {δ δ' : List Sv} {O W : List Addr} (R : RSt D H σ δ' O W) (hl : δ.length = δ'.length) (h : ∀ (i : Nat) sv, δ[i]? = some sv -> sv = .no \/ δ'[i]? = some sv) : RSt D H σ δ O W where
 val := λ i d e => by
  rcases h i _ e with z | z
  ·cases z
  ·exact R.val i d z
 own := λ i d e => by
  rcases h i _ e with z | z
  ·cases z
  ·exact R.own i d z
 inj := λ i j a d d' e e' => by
  rcases h i _ e with z | z
  ·cases z
  ·rcases h j _ e' with y | y
   ·cases y
   ·exact R.inj i j a d d' z y
 ot := λ i d e => by
  rcases h i _ e with z | z
  ·cases z
  ·obtain ⟨⟨t, ts, p, xs, ds, es, e0, e1, e2, e3, e4, e5, e6, e7⟩, u⟩ := R.ot i d z
   refine ⟨⟨t, ts, p, xs, ds, es, e0, e1, e2, e3, e4, e5, e6, λ k d2 q => ?_⟩, λ k d2 q => ?_⟩
   ·rcases h k _ q with y | y
    ·cases y
    ·exact e7 k d2 y
   ·rcases h k _ q with y | y
    ·cases y
    ·exact u k d2 y
 o2 := λ i d e => by
  rcases h i _ e with z | z
  ·cases z
  ·obtain ⟨⟨p, L, e0, e1, e2, e3⟩, u, n⟩ := R.o2 i d z
   refine ⟨⟨p, L, e0, e1, e2, λ k d2 a q q2 => ?_⟩, λ k d2 q => ?_, λ k d2 q => ?_⟩
   ·rcases h k _ q with y | y
    ·cases y
    ·exact e3 k d2 a y q2
   ·rcases h k _ q with y | y
    ·cases y
    ·exact u k d2 y
   ·rcases h k _ q with y | y
    ·cases y
    ·exact n k d2 y
 len := by rw [hl]; exact R.len
 hid := R.hid
theorem q6o : ∀ {is : List Nat} {ds : List DV} {δ δ' : List Sv}, q4y δ is ds = some δ' -> (∀ i ∈ is, δ[i]? = some .no \/ δ[i]? = none) -> ∀ (i : Nat) sv, δ[i]? = some sv -> sv = .no \/ δ'[i]? = some sv
 | [], [], _, _, h, _, i, sv, e => by cases h; exact .inr e
 | j :: is, d :: ds, δ, δ', h, hn, i, sv, e => by
  by_cases hij : i ∈ j :: is
  ·rcases hn i hij with z | z
   ·rw [z] at e; cases e; exact .inl rfl
   ·rw [z] at e; cases e
  ·have hne : j ≠ i := λ z => hij (by rw [z]; exact List.mem_cons_self)
   have hni : i ∉ is := λ z => hij (List.mem_cons_of_mem _ z)
   have key : ∀ {is : List Nat} {ds : List DV} {δ δ' : List Sv}, q4y δ is ds = some δ' -> i ∉ is -> δ[i]? = some sv -> δ'[i]? = some sv := by
    intro is
    induction is with
    | nil => intro ds δ δ' h _ e; cases ds with
     | nil => cases h; exact e
     | cons _ _ => cases h
    | cons k is ih => intro ds δ δ' h hi e; cases ds with
     | nil => cases h
     | cons d ds =>
      refine ih h (λ z => hi (List.mem_cons_of_mem _ z)) ?_
      rw [List.getElem?_set_ne (λ z => hi (by rw [z]; exact List.mem_cons_self))]
      exact e
   exact .inr (key h hij e)
 | [], _ :: _, _, _, h, _, _, _, _ => by cases h
 | _ :: _, [], _, _, h, _, _, _, _ => by cases h
theorem q5s {tg : Tg} {d : DV} {δ δ' : List Sv} (h : tg.bind d δ = some δ') (hn : ∀ i ∈ q2O tg, δ[i]? = some .no \/ δ[i]? = none) : δ.length = δ'.length /\ ∀ (i : Nat) sv, δ[i]? = some sv -> sv = .no \/ δ'[i]? = some sv := by
 cases tg with
 | one j =>
  cases h
  refine ⟨(List.length_set ..).symm, λ i sv e => ?_⟩
  by_cases hij : i = j
  ·subst hij
   rcases hn i (by simp [q2O]) with z | z
   ·rw [z] at e; cases e; exact .inl rfl
   ·rw [z] at e; cases e
  ·exact .inr (by rw [List.getElem?_set_ne (Ne.symm hij)]; exact e)
 | many is =>
  unfold Tg.bind at h
  dsimp only at h
  split at h
  ·exact ⟨(q2d h).2.symm, q6o h hn⟩
  ·cases h
theorem RSt.inner {D : Dm} {H : Hp} {σ : St} {δ : List Sv} {O W : List Addr} (R : RSt D H σ δ O W) (fr : List (Option Nat)) (hnd : ∀ (j k i : Nat), fr[j]? = some (some i) -> fr[k]? = some (some i) -> j = k) : RSt D H (L2.inner fr σ) (q0x fr δ) O W := by
 have look : ∀ (j : Nat) sv, (q0x fr δ)[j]? = some sv -> sv ≠ .no -> ∃ i, fr[j]? = some (some i) /\ δ[i]? = some sv := λ j sv h hn => by
  unfold q0x at h
  rw [List.getElem?_map] at h
  cases q : fr[j]? with
  | none => rw [q] at h; cases h
  | some o =>
   rw [q] at h
   cases o with
   | none => cases h; exact absurd rfl hn
   | some i =>
    refine ⟨i, rfl, ?_⟩
    have h' : (δ.getD i .no).plain = sv := by simpa using h
    rw [List.getD_eq_getElem?_getD] at h'
    cases z : δ[i]? with
    | none => rw [z] at h'; exact absurd h'.symm hn
    | some sv' =>
     rw [z] at h'
     cases sv' with
     | ot d => exact absurd h'.symm hn
     | o2 d => exact absurd h'.symm hn
     | no => exact congrArg some h'
     | val d => exact congrArg some h'
     | own d => exact congrArg some h'
 have sig : ∀ (j i : Nat) (v : V), fr[j]? = some (some i) -> σ[i]? = some (some v) -> (L2.inner fr σ)[j]? = some (some v) := λ j i v q e => by
  unfold L2.inner
  rw [List.getElem?_map, q]
  simp [e]
 have noot : ∀ (j : Nat) d, (q0x fr δ)[j]? ≠ some (.ot d) := λ j d h => by
  unfold q0x at h
  rw [List.getElem?_map] at h
  cases q : fr[j]? with
  | none => rw [q] at h; cases h
  | some o =>
   rw [q] at h
   cases o with
   | none => cases h
   | some i =>
    have h' : (δ.getD i .no).plain = .ot d := by simpa using h
    cases z : δ.getD i .no with
    | ot d2 => rw [z] at h'; cases h'
    | o2 d2 => rw [z] at h'; cases h'
    | no => rw [z] at h'; cases h'
    | val d2 => rw [z] at h'; cases h'
    | own d2 => rw [z] at h'; cases h'
 have noo2 : ∀ (j : Nat) d, (q0x fr δ)[j]? ≠ some (.o2 d) := λ j d h => by
  unfold q0x at h
  rw [List.getElem?_map] at h
  cases q : fr[j]? with
  | none => rw [q] at h; cases h
  | some o =>
   rw [q] at h
   cases o with
   | none => cases h
   | some i =>
    have h' : (δ.getD i .no).plain = .o2 d := by simpa using h
    cases z : δ.getD i .no with
    | ot d2 => rw [z] at h'; cases h'
    | o2 d2 => rw [z] at h'; cases h'
    | no => rw [z] at h'; cases h'
    | val d2 => rw [z] at h'; cases h'
    | own d2 => rw [z] at h'; cases h'
 refine ⟨λ j d h => ?_, λ j d h => ?_, λ j k a d d' h1 h2 e1 e2 => ?_, λ j d h => absurd h (noot j d), λ j d h => absurd h (noo2 j d), ?_, R.hid⟩
 ·obtain ⟨i, q1, q2⟩ := look j _ h (by intro z; cases z)
  obtain ⟨v, e1, e2⟩ := R.val i d q2
  exact ⟨v, sig j i v q1 e1, e2⟩
 ·obtain ⟨i, q1, q2⟩ := look j _ h (by intro z; cases z)
  obtain ⟨a, xs, ds, e0, e1, e2⟩ := R.own i d q2
  exact ⟨a, xs, ds, e0, sig j i _ q1 e1, e2⟩
 ·obtain ⟨i, q1, q2⟩ := look j _ h1 (by intro z; cases z)
  obtain ⟨i', q1', q2'⟩ := look k _ h2 (by intro z; cases z)
  obtain ⟨b, xs, ds, _, z1, _⟩ := R.own i d q2
  obtain ⟨b', xs', ds', _, z1', _⟩ := R.own i' d' q2'
  have y := sig j i _ q1 z1
  have y' := sig k i' _ q1' z1'
  rw [e1] at y
  rw [e2] at y'
  cases y
  cases y'
  have := R.inj i i' a d d' q2 q2' z1 z1'
  subst this
  exact hnd j k i q1 q1'
 ·unfold L2.inner q0x; rw [List.length_map, List.length_map]
section
variable {X : Cx} {E : St -> XK} {δ : List Sv} {iter elt tgE : Expr} {ifs : List Expr} {pos : Pos} {N' : List Str} {scope : Scope} {fr : List (Option Nat)} {tg : Tg} {ri : Option Ri} {re : Re}
theorem q4P {D : Dm} {J : It} {ds : List DV} {O W : List Addr} {H H1 : Hp} {σ : St} {c : Cl} {g : DV -> Option Rc} {xs : List DV} {tc : TT} {te : TE} {δ0 : List Sv} {Q : VK} (w : Wk D J ds (hidW O W c) (q1C O W c) H1) (hd0 : Hid O W H H) (hc : c ≠ .weak) (R : RSt D H1 σ δ0 O W)
  (hn : ∀ i ∈ q2O tg, δ0[i]? = some .no \/ δ0[i]? = none) (hz : ds.length <= sizeLine) (hx : q0L g ds = some xs) (s1 : Same H H1)
  (step : ∀ d rc, d ∈ ds -> g d = some rc -> ∃ δ', tg.bind d δ0 = some δ' /\ ∀ σ' H2, Same H1 H2 -> RSt D H2 σ' δ' O W -> ∀ K : Bool -> Hp -> Prop, (rc = .skip -> ∀ H3, Same H2 H3 -> K false H3) -> (∀ x, rc = .item x -> ∀ H3, Same H2 H3 -> K true H3) -> tc σ' H2 K)
  (stepE : ∀ d x, d ∈ ds -> g d = some (.item x) -> ∀ δ', tg.bind d δ0 = some δ' -> ∀ σ' H2, Same H1 H2 -> RSt D H2 σ' δ' O W -> ∀ K : VK, (∀ v H3, Same H2 H3 -> Rep D (L2.wo (O ++ W) H3) x v -> K v H3) -> te σ' H2 K)
  (fin : ∀ v H', Same H H' -> Got D O W H H' (.lst xs) .fresh v -> Q v H') :
  z0Z J (gT D.K tg) tc te (λ ys H' => ∀ p, H' p = none -> Q (.ref p) (upd H' p (.lst ys))) σ H1 := by
 have ci : q1C O W c = O ++ W := by cases c <;> first | rfl | exact absurd rfl hc
 rw [ci] at w
 refine ⟨λ i n ys σ' H' => n = ds.length - i /\ i <= ds.length /\ ys.length <= i /\ RSt D H' σ' δ0 O W /\ Same H1 H' /\ ∃ done rest, q0L g (ds.drop i) = some rest /\ done ++ rest = xs /\ RepL D (L2.wo (O ++ W) H') done ys,
  ⟨ds.length, rfl, Nat.zero_le _, Nat.zero_le _, R, Same.refl _, [], xs, hx, rfl, q0v.mpr rfl⟩, ?_⟩
 rintro i n ys σ2 H2 ⟨rfl, hi', hy, R2, s2, done, rest, h1, h2, r2⟩
 by_cases hlt : i < ds.length
 ·refine .inr ⟨w.go i H2 s2.wo hlt, Nat.lt_of_le_of_lt hy (Nat.lt_of_lt_of_le hlt hz), λ x' H3 y => ?_⟩
  have y1 := w.same i H2 x' H3 y
  have y3 : Rep D (L2.wo (O ++ W) H3) ds[i] x' := w.yld i H2 x' H3 _ (O ++ W) s2.wo s2.wo y (List.getElem?_eq_getElem hlt) λ a ha => ⟨R2.hid.ot a ha, .inl ha⟩
  rw [List.drop_eq_getElem_cons hlt] at h1
  have hm : ds[i] ∈ ds := List.getElem_mem hlt
  unfold q0L at h1
  split at h1
  ·cases h1
  ·rename_i q
   obtain ⟨δ', b1, b2⟩ := step _ _ hm q
   refine q5R (R2.mono y1) y3 b1 λ σ3 R3 => ?_
   have back := q5s b1 hn
   refine b2 σ3 H3 (s2.trans y1) R3 _ (λ _ H4 s4 => ?_) (λ x z => nomatch z)
   show if false = true then _ else _
   rw [if_neg Bool.false_ne_true]
   exact ⟨ds.length - (i + 1), by omega, rfl, hlt, Nat.le_succ_of_le hy, (R3.less back.1 back.2).mono s4, (s2.trans y1).trans s4, done, rest, h1, h2, r2.mono (y1.trans s4).wo⟩
  ·rename_i x q
   split at h1
   ·cases h1
   ·rename_i rest' q'
    cases h1
    obtain ⟨δ', b1, b2⟩ := step _ _ hm q
    refine q5R (R2.mono y1) y3 b1 λ σ3 R3 => ?_
    have back := q5s b1 hn
    refine b2 σ3 H3 (s2.trans y1) R3 _ (λ z => nomatch z) (λ x' z H4 s4 => ?_)
    cases z
    show if true = true then _ else _
    rw [if_pos rfl]
    refine stepE _ x hm q δ' b1 σ3 H4 ((s2.trans y1).trans s4) (R3.mono s4) _ λ v H5 s5 rv => ?_
    exact ⟨ds.length - (i + 1), by omega, rfl, hlt, by rw [List.length_append, List.length_singleton]; omega, (R3.less back.1 back.2).mono (s4.trans s5), ((s2.trans y1).trans s4).trans s5, done ++ [x], rest', q', by rw [List.append_assoc]; exact h2,
     (r2.mono ((y1.trans s4).trans s5).wo).append (RepL.one rv)⟩
 ·have e : i = ds.length := by omega
  subst e
  rw [List.drop_length] at h1
  cases h1
  rw [List.append_nil] at h2
  subst h2
  have s0 := s1.trans s2
  refine .inl ⟨w.stop H2 s2.wo, λ p hp => fin _ _ (s0.trans (q0q hp)) ?_⟩
  have hd : Hid O W H H2 := hd0.mono s0
  exact q2k hd hp r2
noncomputable abbrev E0s : St -> XK := λ _ _ _ _ => False
theorem PE.any {Y : Cx} {e : Expr} {ι : Sort _} {t : ι -> TE} (h : ∀ k, PE Y e (t k)) : PE Y e (λ σ H Q => ∃ k, t k σ H Q) := λ pins s σ H Q I ⟨k, q⟩ => h k pins s σ H Q I q
theorem PTs.any {Y : Cx} {ι : Sort _} {es : List Expr} {t : ι -> TT} (h : ∀ k, PTs Y es (t k)) : PTs Y es (λ σ H Q => ∃ k, t k σ H Q) := λ pins s σ H Q I ⟨k, q⟩ => h k pins s σ H Q I q
theorem Rc.of_item {r : Option Re} {x : DV} (h : Rc.of r = some (.item x)) : ∃ c, r = some (.ok x c) /\ stro x c = true := by
 unfold Rc.of at h
 split at h
 ·rename_i d c
  split at h
  ·rename_i m; cases h; exact ⟨c, rfl, m⟩
  ·cases h
 ·cases h
theorem Rc.of_skip {r : Option Re} (h : Rc.of r = some .skip) : False := by
 unfold Rc.of at h
 split at h
 ·split at h <;> cases h
 ·cases h
theorem q3M {fr : List (Option Nat)} {δ : List Sv} {i : Nat} (h : fr[i]? = some none) : (q0x fr δ)[i]? = some .no := by
 unfold q0x
 rw [List.getElem?_map, h]; rfl
noncomputable def q1u (X : Cx) (E : St -> XK) (δ : List Sv) (tgE iter : Expr) (ifs : List Expr) (elt : Expr) (scope : Scope) (N' : List Str) (fr : List (Option Nat)) (tg : Tg) (re : Re) : Prop :=
 ∃ wi tc te, PI X tgE iter wi /\ (∀ C cells s₂ H₂ fp, PTs (q0u X scope N' C cells s₂ H₂ fp) ifs tc) /\ (∀ C cells s₂ H₂ fp, PE (q0u X scope N' C cells s₂ H₂ fp) elt te) /\
  ∀ σ H Q, dE X.D E δ re σ H Q -> z2n fr wi (gT X.K tg) tc te σ H Q
theorem q4V {iter : Expr} {env : Env} (hset : q2B iter = false) : ∀ x, foldedSetIterable iter env x = pure x := by cases iter <;> first | (intro _; rfl) | cases hset
theorem q1u.pe (P : q1u X E δ tgE iter ifs elt scope N' fr tg re) (S : CompScope X.N N' scope X.env.scope fr) (hc : X.calm = true) (hG : ∀ C cells s₂ H₂ fp, PG (q0u X scope N' C cells s₂ H₂ fp) tgE (gT X.K tg)) (hset : q2B iter = false) :
  PE X (.ListComp elt [⟨tgE, iter, ifs, 0⟩] scope pos) (dE X.D E δ re) := by
 obtain ⟨wi, tc, te, h1, h2, h3, h4⟩ := P
 exact (z1z (pos := pos) S hc h1 hG h2 h3 (q4V hset)).weak h4
theorem RSt.noNames {D : Dm} {H : Hp} {σ : St} {δ : List Sv} {O W : List Addr} (R : RSt D H σ δ O W) (fr : List (Option Nat)) : RSt D H (L2.inner fr σ) (q0x fr []) O [] := by
 have no : ∀ (j : Nat) sv, (q0x fr [])[j]? = some sv -> sv = .no := λ j sv h => by
  unfold q0x at h
  rw [List.getElem?_map] at h
  cases q : fr[j]? with
  | none => rw [q] at h; cases h
  | some o =>
   rw [q] at h
   cases o with
   | none => cases h; rfl
   | some i => cases h; rfl
 refine ⟨λ j d h => (by cases no j _ h), λ j d h => (by cases no j _ h), λ j k a d d' h1 h2 e1 e2 => (by cases no j _ h1), λ j d h => (by cases no j _ h), λ j d h => (by cases no j _ h), ?_, ?_⟩
 ·unfold L2.inner q0x; rw [List.length_map, List.length_map]
 ·exact ⟨λ a ha => R.hid.ot a (by rw [List.append_nil] at ha; exact List.mem_append_left _ ha), Same.refl _, λ a ha => (nomatch ha), λ a ha => (nomatch ha)⟩
theorem q4e {evElt : List Sv -> Option Re} (S : CompScope X.N N' scope X.env.scope fr) (hc : X.calm = true) (hnd : ∀ (j k i : Nat), fr[j]? = some (some i) -> fr[k]? = some (some i) -> j = k) (hsl : ∀ i ∈ q2O tg, fr[i]? = some none) (hi : ∀ q, ri = some q -> PI X tgE iter (dI X.D E δ q))
  (hG : ∀ C cells s₂ H₂ fp, PG (q0u X scope N' C cells s₂ H₂ fp) tgE (gT X.K tg)) (he : ∀ δ' r, evElt δ' = some r -> ∀ C cells s₂ H₂ fp, PE (q0u X scope N' C cells s₂ H₂ fp) elt (dE X.D E0s δ' r))
  (h : (Ri.thn ri λ ds c => if c = .weak \/ mostLen < ds.length then (if c = .weak /\ ds.length <= mostLen then q2w (q0L (λ d => (tg.bind d (q0x fr [])).bind λ δ' => Rc.of (evElt δ')) ds) else none) else q1D (q0L (λ d => (tg.bind d (q0x fr δ)).bind λ δ' => Rc.of (evElt δ')) ds)) = some re) : q1u X E δ tgE iter [] elt scope N' fr tg re := by
 cases hri : ri with
 | none => rw [hri] at h; cases h
 | some q =>
  rw [hri] at h
  have A := hi q hri
  refine ⟨_, _, _, A, (λ C cells s₂ H₂ fp => z2z), (λ C cells s₂ H₂ fp => PE.any (ι := { p : List Sv × Re // evElt p.1 = some p.2 }) (t := λ k => dE X.D E0s k.1.1 k.1.2) λ k => he k.1.1 k.1.2 k.2 C cells s₂ H₂ fp), ?_⟩
  cases q with
  | ex c => cases h; exact λ σ H Q ⟨O, W, R, p⟩ => ⟨O, W, R, p⟩
  | ok ds c =>
   have h' : (if c = .weak \/ mostLen < ds.length then (if c = .weak /\ ds.length <= mostLen then q2w (q0L (λ d => (tg.bind d (q0x fr [])).bind λ δ' => Rc.of (evElt δ')) ds) else none) else q1D (q0L (λ d => (tg.bind d (q0x fr δ)).bind λ δ' => Rc.of (evElt δ')) ds)) = some re := h
   split at h'
   ·split at h'
    ·rename_i m
     obtain ⟨rfl, ml⟩ := m
     unfold q2w at h'
     split at h'
     ·cases h'
     ·rename_i xs hx
      cases h'
      refine λ σ H Q ⟨O, W, R, p⟩ => ⟨O, W, R, λ J H1 s1 w => ?_⟩
      have w' : Wk X.D J ds (hidW O [] .strong) (q1C O [] .strong) H1 := by
       show Wk X.D J ds (O ++ []) (O ++ []) H1
       rw [List.append_nil]; exact w
      have hd0 : Hid O [] H H := (R.noNames fr).hid
      refine q4P (tg := tg) (D := X.D) (O := O) (W := []) w' hd0 (by intro z; cases z) ((R.mono s1).noNames fr) (λ i hi => .inl (q3M (hsl i hi))) (q1s (by omega)) hx s1 (λ d rc hm hg => ?_) (λ d x hm hg δ' hb σ' H2 s2 R2 K hK => ?_) (λ v H' s' g' => p v H' s' ?_)
      ·cases hb : tg.bind d (q0x fr []) with
       | none => rw [hb] at hg; cases hg
       | some δ' =>
        rw [hb] at hg
        refine ⟨δ', rfl, λ σ' H2 s2 R2 K k1 k2 => ?_⟩
        cases rc with
        | skip => exact (Rc.of_skip hg).elim
        | item x => exact k2 x rfl H2 (Same.refl _)
      ·rw [hb] at hg
       obtain ⟨cl, e1, e2⟩ := Rc.of_item hg
       exact ⟨⟨⟨δ', .ok x cl⟩, e1⟩, O, [], R2, λ v H3 s3 g3 => hK v H3 s3 (g3.stro (R2.hid.mono s3) e2)⟩
      ·show Rep X.D (L2.wo O H') _ v
       have := Got.strong g' (hd0.mono s')
       rw [List.append_nil] at this
       exact this
    ·cases h'
   ·rename_i m
    rw [not_or] at m
    unfold q1D at h'
    split at h'
    ·cases h'
    ·rename_i xs hx
     cases h'
     refine λ σ H Q ⟨O, W, R, p⟩ => ⟨O, W, R, λ J H1 s1 w => ?_⟩
     refine q4P (tg := tg) (D := X.D) w R.hid m.1 ((R.mono s1).inner fr hnd) (λ i hi => .inl (q3M (hsl i hi))) (q1s (by omega)) hx s1 (λ d rc hm hg => ?_) (λ d x hm hg δ' hb σ' H2 s2 R2 K hK => ?_) p
     ·cases hb : tg.bind d (q0x fr δ) with
      | none => rw [hb] at hg; cases hg
      | some δ' =>
       rw [hb] at hg
       refine ⟨δ', rfl, λ σ' H2 s2 R2 K k1 k2 => ?_⟩
       cases rc with
       | skip => exact (Rc.of_skip hg).elim
       | item x => exact k2 x rfl H2 (Same.refl _)
     ·rw [hb] at hg
      obtain ⟨cl, e1, e2⟩ := Rc.of_item hg
      exact ⟨⟨⟨δ', .ok x cl⟩, e1⟩, O, W, R2, λ v H3 s3 g3 => hK v H3 s3 (g3.stro (R2.hid.mono s3) e2)⟩
theorem q3Y {evElt : List Sv -> Option Re} {evC : List Sv -> Option Rt} {cond : Expr} (S : CompScope X.N N' scope X.env.scope fr) (hc : X.calm = true) (hnd : ∀ (j k i : Nat), fr[j]? = some (some i) -> fr[k]? = some (some i) -> j = k) (hsl : ∀ i ∈ q2O tg, fr[i]? = some none) (hi : ∀ q, ri = some q -> PI X tgE iter (dI X.D E δ q))
  (hG : ∀ C cells s₂ H₂ fp, PG (q0u X scope N' C cells s₂ H₂ fp) tgE (gT X.K tg)) (he : ∀ δ' r, evElt δ' = some r -> ∀ C cells s₂ H₂ fp, PE (q0u X scope N' C cells s₂ H₂ fp) elt (dE X.D E0s δ' r))
  (ht : ∀ δ' r, evC δ' = some r -> ∀ C cells s₂ H₂ fp, PT (q0u X scope N' C cells s₂ H₂ fp) cond (dT X.D E0s δ' r))
  (h : (Ri.thn ri λ ds c => if c = .weak \/ mostLen < ds.length then none else q1D (q0L (λ d => (tg.bind d (q0x fr δ)).bind λ δ' => Rc.test (evC δ') (Rc.of (evElt δ'))) ds)) = some re) : q1u X E δ tgE iter [cond] elt scope N' fr tg re := by
 cases hri : ri with
 | none => rw [hri] at h; cases h
 | some q =>
  rw [hri] at h
  have A := hi q hri
  refine ⟨_, _, _, A, (λ C cells s₂ H₂ fp => PTs.any (ι := { p : List Sv × Rt // evC p.1 = some p.2 }) (t := λ k => dT X.D E0s k.1.1 k.1.2) λ k => z1s (ht k.1.1 k.1.2 k.2 C cells s₂ H₂ fp)),
   (λ C cells s₂ H₂ fp => PE.any (ι := { p : List Sv × Re // evElt p.1 = some p.2 }) (t := λ k => dE X.D E0s k.1.1 k.1.2) λ k => he k.1.1 k.1.2 k.2 C cells s₂ H₂ fp), ?_⟩
  cases q with
  | ex c => cases h; exact λ σ H Q ⟨O, W, R, p⟩ => ⟨O, W, R, p⟩
  | ok ds c =>
   have h' : (if c = .weak \/ mostLen < ds.length then none else q1D (q0L (λ d => (tg.bind d (q0x fr δ)).bind λ δ' => Rc.test (evC δ') (Rc.of (evElt δ'))) ds)) = some re := h
   split at h'
   ·cases h'
   ·rename_i m
    rw [not_or] at m
    unfold q1D at h'
    split at h'
    ·cases h'
    ·rename_i xs hx
     cases h'
     refine λ σ H Q ⟨O, W, R, p⟩ => ⟨O, W, R, λ J H1 s1 w => ?_⟩
     refine q4P (tg := tg) (D := X.D) w R.hid m.1 ((R.mono s1).inner fr hnd) (λ i hi => .inl (q3M (hsl i hi))) (q1s (by omega)) hx s1 (λ d rc hm hg => ?_) (λ d x hm hg δ' hb σ' H2 s2 R2 K hK => ?_) p
     ·cases hb : tg.bind d (q0x fr δ) with
      | none => rw [hb] at hg; cases hg
      | some δ' =>
       rw [hb] at hg
       have hg' : Rc.test (evC δ') (Rc.of (evElt δ')) = some rc := hg
       refine ⟨δ', rfl, λ σ' H2 s2 R2 K k1 k2 => ?_⟩
       unfold Rc.test at hg'
       split at hg'
       ·rename_i q
        refine ⟨⟨⟨δ', .ok true⟩, q⟩, O, W, R2, λ H3 s3 => ?_⟩
        cases rc with
        | skip => exact (Rc.of_skip hg').elim
        | item x => exact k2 x rfl H3 s3
       ·rename_i q
        cases hg'
        exact ⟨⟨⟨δ', .ok false⟩, q⟩, O, W, R2, λ H3 s3 => k1 rfl H3 s3⟩
       ·cases hg'
     ·rw [hb] at hg
      have hg' : Rc.test (evC δ') (Rc.of (evElt δ')) = some (.item x) := hg
      unfold Rc.test at hg'
      split at hg'
      ·obtain ⟨cl, e1, e2⟩ := Rc.of_item hg'
       exact ⟨⟨⟨δ', .ok x cl⟩, e1⟩, O, W, R2, λ v H3 s3 g3 => hK v H3 s3 (g3.stro (R2.hid.mono s3) e2)⟩
      ·cases hg'
      ·cases hg'
end
end L2
end
section
namespace L2
open PySem PySem.Spec PyProof.Rows
noncomputable def dEnd (D : Dm) (E : St -> XK) (H0 : Hp) (O : List Addr) (Dn : Ends) : Out -> Prop
 | .nx δ => ∀ σ H W, RSt D H σ δ O W -> (∀ a ∈ W, H0 a = none) -> Same H0 H -> Dn.nx σ H
 | .rt d fr => ∀ v H, Same H0 H -> GotR D O H0 H d fr v -> Dn.rt v H
 | .rtt d => ∀ v H, Same H0 H -> GotT D O H0 H d v -> Dn.rt v H
 | .ex c δ => ∀ σ H W C, D.mg c = some C -> RSt D H σ δ O W -> (∀ a ∈ W, H0 a = none) -> Same H0 H -> E σ C none H
noncomputable def dS (D : Dm) (E : St -> XK) (δ : List Sv) (o : Out) : TS := λ Dn σ H => ∃ H0 O W, RSt D H σ δ O W /\ (∀ a ∈ W, H0 a = none) /\ (∀ a ∈ O, H0 a ≠ none) /\ Same H0 H /\ dEnd D E H0 O Dn o
section
variable {X : Cx} {E : St -> XK} {δ δ1 : List Sv} {st : Stmt} {rest body els : List Stmt} {o : Out} {e c : Expr} {pos pos' : Pos} {ra : Option Re} {rt : Option Rt} {i : Nat} {x : Str}
theorem z1n : PSs X [] (dS X.D E δ (.nx δ)) := z1l.weak λ Dn σ H ⟨H0, O, W, R, fr, fo, sm, k⟩ => k σ H W R fr sm
theorem q9V (h1 : PS X st (dS X.D E δ (.nx δ1))) (h2 : PSs X rest (dS X.D E δ1 o)) : PSs X (st :: rest) (dS X.D E δ o) :=
 (q3G h1 h2).weak λ Dn σ H ⟨H0, O, W, R, fr, fo, sm, k⟩ => ⟨H0, O, W, R, fr, fo, sm, λ σ' H' W' R' fr' sm' => ⟨H0, O, W', R', fr', fo, sm', k⟩⟩
theorem z4I {d : DV} {fr : Bool} (h1 : PS X st (dS X.D E δ (.rt d fr))) : PSs X (st :: rest) (dS X.D E δ (.rt d fr)) :=
 (q3G h1 q1G).weak λ Dn σ H ⟨H0, O, W, R, fr, fo, sm, k⟩ => ⟨H0, O, W, R, fr, fo, sm, k⟩
theorem z2t {d : DV} (h1 : PS X st (dS X.D E δ (.rtt d))) : PSs X (st :: rest) (dS X.D E δ (.rtt d)) :=
 (q3G h1 q1G).weak λ Dn σ H ⟨H0, O, W, R, fr, fo, sm, k⟩ => ⟨H0, O, W, R, fr, fo, sm, k⟩
theorem z4r {c : Str} {δ' : List Sv} (h1 : PS X st (dS X.D E δ (.ex c δ'))) : PSs X (st :: rest) (dS X.D E δ (.ex c δ')) :=
 (q3G h1 q1G).weak λ Dn σ H ⟨H0, O, W, R, fr, fo, sm, k⟩ => ⟨H0, O, W, R, fr, fo, sm, k⟩
theorem q4f {D : Dm} {H0 H : Hp} {O W : List Addr} {σ : St} {Dn : Ends} {c : Str} {Q : VK} (R : RSt D H σ δ O W) (fr : ∀ a ∈ W, H0 a = none) (sm : Same H0 H) (k : dEnd D E H0 O Dn (.ex c δ)) : Post D E σ O W H H Q (.ex c) :=
 λ H' C m s => k σ H' W C m (R.mono s) fr (sm.trans s)
theorem z3q (hc : ∀ q, rt = some q -> PT X c (dT X.D E δ q)) {ro rp : Option Out} (h1 : ∀ q, ro = some q -> PSs X body (dS X.D E δ q)) (h2 : ∀ q, rp = some q -> PSs X els (dS X.D E δ q)) (h : (Rt.thnS δ rt λ k => if k then ro else rp) = some o) : PS X (.If c body els pos) (dS X.D E δ o) := by
 cases hrt : rt with
 | none => rw [hrt] at h; cases h
 | some q =>
  rw [hrt] at h
  have C := hc q hrt
  cases q with
  | ex c => cases h; exact (z2K C q1G q1G).weak λ Dn σ H ⟨H0, O, W, R, fr, fo, sm, k⟩ => ⟨O, W, R, λ H' C m s => k σ H' W C m (R.mono s) fr (sm.trans s)⟩
  | ok b =>
   cases b with
   | true =>
    have h' : ro = some o := h
    exact (z2K C (h1 o h') q1G).weak λ Dn σ H ⟨H0, O, W, R, fr, fo, sm, k⟩ => ⟨O, W, R, λ H1 s1 => iteT ⟨H0, O, W, R.mono s1, fr, fo, sm.trans s1, k⟩⟩
   | false =>
    have h' : rp = some o := h
    exact (z2K C q1G (h2 o h')).weak λ Dn σ H ⟨H0, O, W, R, fr, fo, sm, k⟩ => ⟨O, W, R, λ H1 s1 => iteF ⟨H0, O, W, R.mono s1, fr, fo, sm.trans s1, k⟩⟩
theorem z1d (ha : ∀ q, ra = some q -> PE X e (dE X.D E δ q)) (h : (Re.thnS δ ra λ d c => some (retD d c)) = some o) : PS X (.Return (some e) pos) (dS X.D E δ o) := by
 cases hra : ra with
 | none => rw [hra] at h; cases h
 | some q =>
  rw [hra] at h
  have A := ha q hra
  cases q with
  | ex c => cases h; exact (q5E A).weak λ Dn σ H ⟨H0, O, W, R, fr, fo, sm, k⟩ => ⟨O, W, R, q4f R fr sm k⟩
  | ok d cl =>
   have h2 : some (retD d cl) = some o := h
   cases h2
   by_cases hft : cl = .ft
   ·subst hft
    refine (q5E A).weak λ Dn σ H ⟨H0, O, W, R, fr, fo, sm, k⟩ => ⟨O, W, R, λ v H1 s1 g => (k : dEnd X.D E H0 O Dn (.rtt d)) v H1 (sm.trans s1) ?_⟩
    obtain ⟨t, ts, p, xs, ds, es, e1, e2, e0, e3, e4, e5, e6⟩ := g
    have up : Same (L2.wo (p :: (O ++ W)) H1) (L2.wo (p :: O) H1) := q0O λ b hb => by rcases List.mem_cons.mp hb with z | z; exact List.mem_cons.mpr (.inl z); exact List.mem_cons_of_mem _ (List.mem_append_left _ z)
    exact .inl ⟨t, ts, p, xs, ds, es, e1, e2, (q0O q5u).tseq e0, sm.free e3, e4, e5.mono up, e6.mono up⟩
   have hrt : retD d cl = .rt d (frD d cl) := by cases cl <;> first | rfl | exact absurd rfl hft
   rw [hrt]
   refine (q5E A).weak λ Dn σ H ⟨H0, O, W, R, fr, fo, sm, k⟩ => ⟨O, W, R, λ v H1 s1 g => (k : dEnd X.D E H0 O Dn (.rt d (frD d cl))) v H1 (sm.trans s1) ?_⟩
   have hd := R.hid.mono s1
   cases hf : frD d cl with
   | false => exact g.weak hd
   | true =>
    unfold frD at hf
    split at hf
    ·obtain ⟨p, xs, ds, e1, e2, e3, e4, e5⟩ := g
     exact ⟨p, xs, ds, e1, e2, sm.free e3, e4, e5.mono (q0O λ b hb => by rcases List.mem_cons.mp hb with z | z; exact List.mem_cons.mpr (.inl z); exact List.mem_cons_of_mem _ (List.mem_append_left _ z))⟩
    ·obtain ⟨a, xs, e1, e0, e2, e3⟩ := g
     exact ⟨a, xs, _, e1, rfl, fr a e0, q1w _ _ e2, e3.mono (q0O λ b hb => by rcases List.mem_cons.mp hb with z | z; rw [z]; exact List.mem_append_right _ e0; exact List.mem_append_left _ z)⟩
    ·cases hf
theorem q3m {v : Expr} {t : Option Expr} {l : Nat} {env : Env} (h : q5t v = false) : swapsWith v t l env = pure false := by
 cases v <;> first | rfl | cases h
theorem z1E (ha : ∀ q, ra = some q -> PE X e (dE X.D E δ q)) (hc : q5t e = false) (h : (Re.thnS δ ra λ _ _ => some (.nx δ)) = some o) : PS X (.Expr e pos) (dS X.D E δ o) := by
 cases hra : ra with
 | none => rw [hra] at h; cases h
 | some q =>
  rw [hra] at h
  have A := ha q hra
  cases q with
  | ex c => cases h; exact (q4z A (q3m hc)).weak λ Dn σ H ⟨H0, O, W, R, fr, fo, sm, k⟩ => ⟨O, W, R, q4f R fr sm k⟩
  | ok d cl => cases h; exact (q4z A (q3m hc)).weak λ Dn σ H ⟨H0, O, W, R, fr, fo, sm, k⟩ => ⟨O, W, R, λ v H1 s1 g => k σ H1 W (R.mono s1) fr (sm.trans s1)⟩
theorem q2b {O W : List Addr} {p b : Addr} : b ∈ O ++ p :: W ↔ b ∈ p :: (O ++ W) := by
 simp only [List.mem_append, List.mem_cons]
 constructor
 ·rintro (h | h | h)
  ·exact .inr (.inl h)
  ·exact .inl h
  ·exact .inr (.inr h)
 ·rintro (h | h | h)
  ·exact .inr (.inl h)
  ·exact .inl h
  ·exact .inr (.inr h)
theorem q0f {α : Type} {l : List α} {i j : Nat} {a b : α} (h : (l.set i a)[j]? = some b) (hn : a ≠ b) : j ≠ i := λ z => by
 subst z
 have hl : j < l.length := by
  have := (List.getElem?_eq_some_iff.mp h).1
  rw [List.length_set] at this; exact this
 rw [List.getElem?_set_self hl] at h
 exact hn (Option.some.inj h)
theorem q2G {α : Type} {l : List α} {i : Nat} {a b : α} (h : (l.set i a)[i]? = some b) : i < l.length /\ a = b := by
 have hl : i < l.length := by
  have := (List.getElem?_eq_some_iff.mp h).1
  rw [List.length_set] at this; exact this
 rw [List.getElem?_set_self hl] at h
 exact ⟨hl, Option.some.inj h⟩
theorem RSt.alloc {D : Dm} {H H' : Hp} {σ : St} {O W : List Addr} {p : Addr} {xs : List V} {ds : List DV} (R : RSt D H σ δ O W) (s : Same H H') (hp : H p = none) (hp' : H' p = some (.lst xs)) (r : RepL D (L2.wo (p :: (O ++ W)) H') ds xs) (i : Nat) :
  RSt D H' (σ.set i (some (.ref p))) (δ.set i (.own (.lst ds))) O (p :: W) := by
 have old : Same (L2.wo (O ++ W) H) (L2.wo (O ++ p :: W) H') := λ b o e => by
  obtain ⟨hb, e⟩ := q1c e
  have hbp : b ≠ p := q0t e hp
  rw [q0y (λ z => by rcases List.mem_cons.mp (q2b.mp z) with z | z; exact hbp z; exact hb z)]
  exact s b o e
 have eqv : Same (L2.wo (p :: (O ++ W)) H') (L2.wo (O ++ p :: W) H') := q0O λ b hb => q2b.mp hb
 refine ⟨λ j d h => ?_, λ j ds' h => ?_, λ j k a d1 d2 h1 h2 e1 e2 => ?_, λ j d h => ?_, λ j d h => by
   have hj := q0f h (by intro z; cases z)
   rw [List.getElem?_set_ne (Ne.symm hj)] at h ⊢
   obtain ⟨⟨p1, L, e0, e1, e2, e3⟩, u, n⟩ := R.o2 j d h
   refine ⟨⟨p1, L, e0, e1, (e2.mono s).sub λ a _ ha => List.mem_cons_of_mem _ ha, λ k d2 a q q2 => ?_⟩, λ k d2 q => ?_, λ k d2 q => ?_⟩
   ·by_cases hk : k = i
    ·subst hk
     obtain ⟨_, z⟩ := q2G q2
     cases z
     intro z
     obtain ⟨_, ys, w⟩ := e2.dom z
     rw [hp] at w
     cases w
    ·rw [List.getElem?_set_ne (Ne.symm hk)] at q q2
     exact e3 k d2 a q q2
   ·have hk := q0f q (by intro z; cases z)
    rw [List.getElem?_set_ne (Ne.symm hk)] at q
    exact u k d2 q
   ·have hk := q0f q (by intro z; cases z)
    rw [List.getElem?_set_ne (Ne.symm hk)] at q
    exact n k d2 q, by rw [List.length_set, List.length_set]; exact R.len, ⟨λ a ha => ?_, Same.refl _, λ a ha => ?_, λ a ha => ?_⟩⟩
 ·have hj := q0f h (by intro z; cases z)
  rw [List.getElem?_set_ne (Ne.symm hj)] at h ⊢
  obtain ⟨v, e1, e2⟩ := R.val j d h
  exact ⟨v, e1, e2.mono old⟩
 ·by_cases hj : j = i
  ·subst hj
   obtain ⟨hl, e⟩ := q2G h
   cases e
   exact ⟨p, xs, ds, rfl, List.getElem?_set_self (by rw [R.len]; exact hl), List.mem_cons_self, hp', r.mono eqv⟩
  ·rw [List.getElem?_set_ne (Ne.symm hj)] at h ⊢
   obtain ⟨a, ys, ds1, e0, e1, e2, e3, e4⟩ := R.own j ds' h
   exact ⟨a, ys, ds1, e0, e1, List.mem_cons_of_mem _ e2, s _ _ e3, e4.mono old⟩
 ·have key : ∀ {j : Nat} {d1 : DV}, (δ.set i (.own (.lst ds)))[j]? = some (.own d1) -> (σ.set i (some (.ref p)))[j]? = some (some (V.ref a)) -> (j = i /\ a = p) \/ (j ≠ i /\ δ[j]? = some (.own d1) /\ σ[j]? = some (some (V.ref a)) /\ a ≠ p) := λ {j d1} h e => by
   by_cases hj : j = i
   ·subst hj
    obtain ⟨_, z⟩ := q2G e
    cases z
    exact .inl ⟨rfl, rfl⟩
   ·rw [List.getElem?_set_ne (Ne.symm hj)] at h e
    refine .inr ⟨hj, h, e, λ z => ?_⟩
    obtain ⟨a', ys, ds1, _, q1, _, q3, _⟩ := R.own j d1 h
    rw [e] at q1; cases q1
    rw [z, hp] at q3; cases q3
  rcases key h1 e1 with ⟨z1, z2⟩ | ⟨z1, z2, z3, z4⟩ <;> rcases key h2 e2 with ⟨y1, y2⟩ | ⟨y1, y2, y3, y4⟩
  ·rw [z1, y1]
  ·exact absurd z2 y4
  ·exact absurd y2 z4
  ·exact R.inj j k a d1 d2 z2 y2 z3 y3
 ·have hj := q0f h (by intro z; cases z)
  rw [List.getElem?_set_ne (Ne.symm hj)] at h ⊢
  obtain ⟨⟨t, ts, p1, ys, ds1, es, e0, e1, e2, e3, e4, e5, e6, e7⟩, u⟩ := R.ot j d h
  refine ⟨⟨t, ts, p1, ys, ds1, es, e0, e1, old.tseq e2, List.mem_cons_of_mem _ e3, s _ _ e4, e5.mono old, e6.mono old, λ k d2 q => ?_⟩, λ k d2 q => ?_⟩
  ·by_cases hk : k = i
   ·subst hk
    intro z
    obtain ⟨_, z⟩ := q2G z
    cases z
    rw [hp] at e4
    cases e4
   ·rw [List.getElem?_set_ne (Ne.symm hk)] at q ⊢
    exact e7 k d2 q
  ·have hk := q0f q (by intro z; cases z)
   rw [List.getElem?_set_ne (Ne.symm hk)] at q
   exact u k d2 q
 ·rcases List.mem_cons.mp (q2b.mp ha) with z | z
  ·rw [z, hp']; intro q; cases q
  ·intro q; exact R.hid.ot a z (s.free q)
 ·rcases List.mem_cons.mp ha with z | z
  ·exact ⟨xs, by rw [z]; exact hp'⟩
  ·obtain ⟨ys, q⟩ := R.hid.wl a z; exact ⟨ys, s _ _ q⟩
 ·rcases List.mem_cons.mp ha with z | z
  ·intro q; exact R.hid.ot p (List.mem_append_left _ (by rw [← z]; exact q)) hp
  ·exact R.hid.dj a z
theorem q8b {i : Nat} {δ : List Sv} (h : noOt i δ = true) {j : Nat} {d : DV} (q : δ[j]? = some (.ot d)) : j = i := by
 unfold noOt at h
 rw [List.all_eq_true] at h
 have hj : j < δ.length := (List.getElem?_eq_some_iff.mp q).1
 have := h j (List.mem_range.mpr hj)
 rw [q] at this
 simpa using this
theorem z1t {i : Nat} {δ : List Sv} (h : noOt i δ = true) {j : Nat} {d : DV} (q : δ[j]? = some (.o2 d)) : j = i := by
 unfold noOt at h
 rw [List.all_eq_true] at h
 have hj : j < δ.length := (List.getElem?_eq_some_iff.mp q).1
 have := h j (List.mem_range.mpr hj)
 rw [q] at this
 simpa using this
theorem RSt.allocT {D : Dm} {H H' : Hp} {σ : St} {O W : List Addr} {t p : Addr} {ts xs : List V} {ds es : List DV} (R : RSt D H σ δ O W) (s : Same H H') (ht : SqT D.K (L2.wo (O ++ W) H') t (.ref p :: ts)) (hp : H p = none) (hp' : H' p = some (.lst xs)) (r : RepL D (L2.wo (p :: (O ++ W)) H') ds xs) (r2 : RepL D (L2.wo (p :: (O ++ W)) H') es ts) (i : Nat) (hno : noOt i δ = true) :
  RSt D H' (σ.set i (some (.ref t))) (δ.set i (.ot (.tup (.lst ds :: es)))) O (p :: W) := by
 have old : Same (L2.wo (O ++ W) H) (L2.wo (O ++ p :: W) H') := λ b o e => by
  obtain ⟨hb, e⟩ := q1c e
  have hbp : b ≠ p := q0t e hp
  rw [q0y (λ z => by rcases List.mem_cons.mp (q2b.mp z) with z | z; exact hbp z; exact hb z)]
  exact s b o e
 have eqv : Same (L2.wo (p :: (O ++ W)) H') (L2.wo (O ++ p :: W) H') := q0O λ b hb => q2b.mp hb
 have ht' : SqT D.K (L2.wo (O ++ p :: W) H') t (.ref p :: ts) := by
  have ne : ∀ {o : HO}, L2.wo (O ++ W) H' t = some o -> (∀ ys, o ≠ .lst ys) -> L2.wo (O ++ p :: W) H' t = some o := λ {o} e ho => by
   obtain ⟨hb, e⟩ := q1c e
   rw [q0y (λ z => by
    rcases List.mem_cons.mp (q2b.mp z) with z | z
    ·rw [z, hp'] at e; cases e; exact ho _ rfl
    ·exact hb z)]
   exact e
  rcases ht with (h | ⟨o, h⟩) | h
  ·exact .inl (.inl (ne h (by intro ys z; cases z)))
  ·exact .inl (.inr ⟨o, ne h (by intro ys z; cases z)⟩)
  ·exact .inr h
 refine ⟨λ j d h => ?_, λ j ds' h => ?_, λ j k a d1 d2 h1 h2 e1 e2 => ?_, λ j d h => ?_, λ j d h => absurd (z1t hno (by have hj := q0f h (by intro z; cases z); rw [List.getElem?_set_ne (Ne.symm hj)] at h; exact h)) (q0f h (by intro z; cases z)), by rw [List.length_set, List.length_set]; exact R.len, ⟨λ a ha => ?_, Same.refl _, λ a ha => ?_, λ a ha => ?_⟩⟩
 ·have hj := q0f h (by intro z; cases z)
  rw [List.getElem?_set_ne (Ne.symm hj)] at h ⊢
  obtain ⟨v, e1, e2⟩ := R.val j d h
  exact ⟨v, e1, e2.mono old⟩
 ·have hj := q0f h (by intro z; cases z)
  rw [List.getElem?_set_ne (Ne.symm hj)] at h ⊢
  obtain ⟨a, ys, ds1, e0, e1, e2, e3, e4⟩ := R.own j ds' h
  exact ⟨a, ys, ds1, e0, e1, List.mem_cons_of_mem _ e2, s _ _ e3, e4.mono old⟩
 ·have n1 := q0f h1 (by intro z; cases z)
  have n2 := q0f h2 (by intro z; cases z)
  rw [List.getElem?_set_ne (Ne.symm n1)] at h1 e1
  rw [List.getElem?_set_ne (Ne.symm n2)] at h2 e2
  exact R.inj j k a d1 d2 h1 h2 e1 e2
 ·have hj : j = i := by
   by_cases hj : j = i
   ·exact hj
   ·rw [List.getElem?_set_ne (Ne.symm hj)] at h
    exact q8b hno h
  subst hj
  obtain ⟨hl, e⟩ := q2G h
  cases e
  refine ⟨⟨t, ts, p, xs, ds, es, rfl, List.getElem?_set_self (by rw [R.len]; exact hl), ht', List.mem_cons_self, hp', r.mono eqv, r2.mono eqv, λ k d2 q => ?_⟩, λ k d2 q => ?_⟩
  ·have hk := q0f q (by intro z; cases z)
   rw [List.getElem?_set_ne (Ne.symm hk)] at q ⊢
   intro z
   obtain ⟨a, ys, ds1, f0, f1, f2, f3, f4⟩ := R.own k d2 q
   rw [z] at f1
   cases f1
   rw [hp] at f3
   cases f3
  ·by_cases hk : k = j
   ·exact hk
   ·rw [List.getElem?_set_ne (Ne.symm hk)] at q
    exact q8b hno q
 ·rcases List.mem_cons.mp (q2b.mp ha) with z | z
  ·rw [z, hp']; intro q; cases q
  ·intro q; exact R.hid.ot a z (s.free q)
 ·rcases List.mem_cons.mp ha with z | z
  ·exact ⟨xs, by rw [z]; exact hp'⟩
  ·obtain ⟨ys, q⟩ := R.hid.wl a z; exact ⟨ys, s _ _ q⟩
 ·rcases List.mem_cons.mp ha with z | z
  ·intro q; exact R.hid.ot p (List.mem_append_left _ (by rw [← z]; exact q)) hp
  ·exact R.hid.dj a z
theorem RSt.write {D : Dm} {H : Hp} {σ : St} {O W : List Addr} {a : Addr} {xs' : List V} {ds ds' : List DV} (R : RSt D H σ δ O W) (hi : δ[i]? = some (.own (.lst ds))) (ha : σ[i]? = some (some (.ref a))) (r : RepL D (L2.wo (O ++ W) H) ds' xs') :
  RSt D (upd H a (.lst xs')) σ (δ.set i (.own (.lst ds'))) O W := by
 obtain ⟨a', xs, ds0, e0, e1, e2, e3, e4⟩ := R.own i _ hi
 rw [ha] at e1; cases e1
 have old : Same (L2.wo (O ++ W) H) (L2.wo (O ++ W) (upd H a (.lst xs'))) := λ b o e => by
  obtain ⟨hb, e⟩ := q1c e
  rw [q0y hb, q0w λ z => hb (by rw [z]; exact List.mem_append_right _ e2)]
  exact e
 have hl : i < δ.length := (List.getElem?_eq_some_iff.mp hi).1
 refine ⟨λ j d h => ?_, λ j ds'' h => ?_, λ j k b d1 d2 h1 h2 q1 q2 => ?_, λ j d h => ?_, λ j d h => by
   have hj := q0f h (by intro z; cases z)
   rw [List.getElem?_set_ne (Ne.symm hj)] at h
   obtain ⟨⟨p1, L, f0, f1, f2, f3⟩, u, n⟩ := R.o2 j d h
   refine ⟨⟨p1, L, f0, f1, f2.write (f3 i _ a hi ha), λ k d2 b q q2 => ?_⟩, λ k d2 q => ?_, λ k d2 q => ?_⟩
   ·by_cases hk : k = i
    ·subst hk
     exact f3 k _ b hi q2
    ·rw [List.getElem?_set_ne (Ne.symm hk)] at q
     exact f3 k d2 b q q2
   ·have hk := q0f q (by intro z; cases z)
    rw [List.getElem?_set_ne (Ne.symm hk)] at q
    exact u k d2 q
   ·have hk := q0f q (by intro z; cases z)
    rw [List.getElem?_set_ne (Ne.symm hk)] at q
    exact n k d2 q, by rw [List.length_set]; exact R.len, ⟨λ b hb q => ?_, Same.refl _, λ b hb => ?_, R.hid.dj⟩⟩
 ·have hj := q0f h (by intro z; cases z)
  rw [List.getElem?_set_ne (Ne.symm hj)] at h
  obtain ⟨v, q1, q2⟩ := R.val j d h
  exact ⟨v, q1, q2.mono old⟩
 ·by_cases hj : j = i
  ·subst hj
   obtain ⟨_, e⟩ := q2G h
   cases e
   exact ⟨a, xs', ds', rfl, ha, e2, q0V, r.mono old⟩
  ·rw [List.getElem?_set_ne (Ne.symm hj)] at h
   obtain ⟨b, ys, ds1, q0, q1, q2, q3, q4⟩ := R.own j ds'' h
   refine ⟨b, ys, ds1, q0, q1, q2, ?_, q4.mono old⟩
   rw [q0w λ z => hj (R.inj j i a ds'' _ h hi (by rw [← z]; exact q1) ha)]
   exact q3
 ·have key : ∀ {j : Nat} {d1 : DV}, (δ.set i (.own (.lst ds')))[j]? = some (.own d1) -> ∃ d0, δ[j]? = some (.own d0) := λ {j d1} h => by
   by_cases hj : j = i
   ·subst hj; exact ⟨_, hi⟩
   ·rw [List.getElem?_set_ne (Ne.symm hj)] at h; exact ⟨d1, h⟩
  obtain ⟨d1', z1⟩ := key h1
  obtain ⟨d2', z2⟩ := key h2
  exact R.inj j k b d1' d2' z1 z2 q1 q2
 ·have hj := q0f h (by intro z; cases z)
  rw [List.getElem?_set_ne (Ne.symm hj)] at h
  obtain ⟨⟨t, ts, p1, ys, ds1, es, f0, f1, f2, f3, f4, f5, f6, f7⟩, u⟩ := R.ot j d h
  refine ⟨⟨t, ts, p1, ys, ds1, es, f0, f1, old.tseq f2, f3, ?_, f5.mono old, f6.mono old, λ k d2 q => ?_⟩, λ k d2 q => ?_⟩
  ·rw [q0w λ z => f7 i _ hi (by rw [z]; exact ha)]
   exact f4
  ·by_cases hk : k = i
   ·subst hk
    exact f7 k _ hi
   ·rw [List.getElem?_set_ne (Ne.symm hk)] at q
    exact f7 k d2 q
  ·have hk := q0f q (by intro z; cases z)
   rw [List.getElem?_set_ne (Ne.symm hk)] at q
   exact u k d2 q
 ·by_cases hba : b = a
  ·rw [hba, q0V] at q; cases q
  ·rw [q0w hba] at q; exact R.hid.ot b hb q
 ·by_cases hba : b = a
  ·exact ⟨xs', by rw [hba]; exact q0V⟩
  ·obtain ⟨ys, q⟩ := R.hid.wl b hb; exact ⟨ys, by rw [q0w hba]; exact q⟩
theorem q3c {H0 H : Hp} {a : Addr} {o : HO} (h : Same H0 H) (ha : H0 a = none) : Same H0 (upd H a o) := λ b u e => by
 rw [q0w (q0t e ha)]
 exact h b u e
theorem z0S {Dn : Ends} {σ : St} {H H0 : Hp} {O W : List Addr} {own : Bool} {d : DV} {cl : Cl} {D : Dm} (h : (if own then q3H i δ d cl else (if stro d cl then some (.nx (δ.set i (.val d))) else none)) = some o)
  (R : RSt D H σ δ O W) (fr : ∀ a ∈ W, H0 a = none) (sm : Same H0 H) (k : dEnd D E H0 O Dn o) : ∀ v H', Same H H' -> Got D O W H H' d cl v -> Dn.nx (σ.set i (some v)) H' := λ v H1 s1 g => by
 cases own with
 | true =>
  simp only [if_true] at h
  unfold q3H at h
  split at h
  ·cases h
   obtain ⟨p, xs, ds, e1, e2, e3, e4, e5⟩ := g
   subst e1 e2
   exact k _ H1 (p :: W) (R.alloc s1 e3 e4 e5 i) (λ a ha => by
    rcases List.mem_cons.mp ha with z | z
    ·rw [z]; exact sm.free e3
    ·exact fr a z) (sm.trans s1)
  ·split at h
   ·rename_i hno
    cases h
    obtain ⟨t, ts, p, xs, ds, es, e1, e2, e0, e3, e4, e5, e6⟩ := g
    subst e1 e2
    exact k _ H1 (p :: W) (R.allocT s1 e0 e3 e4 e5 e6 i hno) (λ a ha => by
     rcases List.mem_cons.mp ha with z | z
     ·rw [z]; exact sm.free e3
     ·exact fr a z) (sm.trans s1)
   ·cases h
  ·cases h
 | false =>
  simp only [Bool.false_eq_true, if_false] at h
  split at h
  ·rename_i m
   cases h
   exact k _ H1 W ((R.mono s1).setVal (g.stro (R.hid.mono s1) m) i) fr (sm.trans s1)
  ·cases h
theorem q7G {own : Bool} (hN : X.N.Nodup) (hi : X.N[i]? = some x) (hx : Loc X.env.scope x) (hf : X.fn x = true \/ X.env.scope.names.lookup x = some .local) (ha : ∀ q, ra = some q -> PE X e (dE X.D E δ q)) (hc : swapsWith e (some (.Name x pos')) pos.line X.env = pure false)
  (h : (Re.thnS δ ra λ d c => if own then q3H i δ d c else (if stro d c then some (.nx (δ.set i (.val d))) else none)) = some o) : PS X (.Assign [.Name x pos'] e pos) (dS X.D E δ o) := by
 cases hra : ra with
 | none => rw [hra] at h; cases h
 | some q =>
  rw [hra] at h
  have A := ha q hra
  cases q with
  | ex c => cases h; exact (q8L hN hi hx A hc hf).weak λ Dn σ H ⟨H0, O, W, R, fr, fo, sm, k⟩ => ⟨O, W, R, q4f R fr sm k⟩
  | ok d cl => exact (q8L hN hi hx A hc hf).weak λ Dn σ H ⟨H0, O, W, R, fr, fo, sm, k⟩ => ⟨O, W, R, z0S h R fr sm k⟩
theorem q6g {own : Bool} {tgE iter elt : Expr} {ifs : List Expr} {scope : Scope} {N' : List Str} {fr : List (Option Nat)} {tg : Tg} {re : Re} (S : CompScope X.N N' scope X.env.scope fr) (hc : X.calm = true) (hN : X.N.Nodup) (hi : X.N[i]? = some x) (hx : X.env.scope.names.lookup x = some .local)
  (P : q1u X E δ tgE iter ifs elt scope N' fr tg re) (hG : ∀ C cells s₂ H₂ fp, PG (q0u X scope N' C cells s₂ H₂ fp) tgE (gT X.K tg)) (hset : q2B iter = false) {cpos : Pos} (hsw : swapsWith (.ListComp elt [⟨tgE, iter, ifs, 0⟩] scope cpos) (some (.Name x pos')) pos.line X.env = pure true)
  (h : (Re.thnS δ (some re) λ d c => if own then q3H i δ d c else (if stro d c then some (.nx (δ.set i (.val d))) else none)) = some o) : PS X (.Assign [.Name x pos'] (.ListComp elt [⟨tgE, iter, ifs, 0⟩] scope cpos) pos) (dS X.D E δ o) := by
 obtain ⟨wi, tc, te, h1, h2, h3, h4⟩ := P
 refine (q7b S hc hN hi hx h1 hG h2 h3 hsw (q4V hset)).weak λ Dn σ H ⟨H0, O, W, R, fr, fo, sm, k⟩ => h4 σ H _ ⟨O, W, R, ?_⟩
 cases re with
 | ex c => cases h; exact q4f R fr sm k
 | ok d cl => exact z0S h R fr sm k
theorem q7k {apos cpos npos : Pos} (hv : PE X (.Name x npos) (tVar i)) (he : ∀ q, ra = some q -> PE X e (dE X.D E δ q)) (hs : q0s e = false) (hline : (apos.endLine == cpos.line) = true)
  (h : (match δ[i]? with
   | some (.own (.lst ds)) => Re.thnS δ ra λ d c => if stro d c /\ ds.length < mostLen then some (.nx (δ.set i (.own (.lst (ds ++ [d]))))) else none
   | _ => none) = some o) : PS X (.Expr (.Call (.Attribute (.Name x npos) "append" apos) [e] [] cpos) pos) (dS X.D E δ o) := by
 split at h
 ·rename_i ds hi
  have C := λ t (hA : PE X e t) => q4z (pos := pos) (z3o PySem.F.plainAttrs_list PySem.F.slot_list_append PySem.F.type_list_append q8N hv (q1h hA q3r (q0r hs)) rfl (by rw [q0r hs]; rfl) hline (q0r hs) rfl) rfl
  cases hra : ra with
  | none => rw [hra] at h; cases h
  | some q =>
   rw [hra] at h
   have A := he q hra
   cases q with
   | ex c =>
    cases h
    exact (C _ A).weak λ Dn σ H ⟨H0, O, W, R, fr, fo, sm, k⟩ => by
     obtain ⟨a, xs, ds0, e0, e1, e2, e3, e4⟩ := R.own i _ hi
     exact ⟨.ref a, e1, .inl ⟨rfl, xs, SqL.of e3⟩, O, W, R, q4f (Q := λ _ _ => False) R fr sm k⟩
   | ok d cl =>
    have h' : (if stro d cl /\ ds.length < mostLen then some (Out.nx (δ.set i (.own (.lst (ds ++ [d]))))) else none) = some o := h
    split at h'
    ·rename_i m
     cases h'
     exact (C _ A).weak λ Dn σ H ⟨H0, O, W, R, fr, fo, sm, k⟩ => by
      obtain ⟨a, xs, ds0, e0, e1, e2, e3, e4⟩ := R.own i _ hi
      cases e0
      refine ⟨.ref a, e1, .inl ⟨rfl, xs, SqL.of e3⟩, O, W, R, λ v H1 s1 g => ?_⟩
      have R1 := R.mono s1
      refine ⟨a, xs, v, rfl, rfl, s1 _ _ e3, by rw [e4.length]; exact Nat.lt_of_lt_of_le m.2 (by decide), ?_⟩
      exact k σ _ W (R1.write hi e1 ((e4.mono s1.wo).append (RepL.one (g.stro (R.hid.mono s1) m.1)))) fr (q3c (sm.trans s1) (fr a e2))
    ·cases h'
 ·cases h
theorem q8P {npos spos : Pos} {ix : Expr} {rb : Option Re} (hv : PE X (.Name x npos) (tVar i)) (he : ∀ q, ra = some q -> PE X e (dE X.D E δ q)) (hx : ∀ q, rb = some q -> PE X ix (dE X.D E δ q)) (hsl : q4S ix = false)
  (h : (match δ[i]? with
   | some (.own (.lst ds)) => Re.thnS δ ra λ d c => Re.thnS δ rb λ k _ => (match k with
    | .int k => (match q1v ds.length k with
     | some j => if stro d c then some (.nx (δ.set i (.own (.lst (ds.set j d))))) else none
     | none => none)
    | _ => none)
   | _ => none) = some o) : PS X (.Assign [.Subscript (.Name x npos) ix spos] e pos) (dS X.D E δ o) := by
 have sub : ∀ v, assign (.Subscript (.Name x npos) ix spos) X.env v = (do
   let ov ← holding [v] (eval (.Name x npos) X.env)
   let iv ← holding [v, ov] (eval ix X.env)
   standAt spos
   holding [v, ov, iv] (setItem ov iv v)
   release [v, ov, iv] []) := by cases ix <;> first | (intro _; rfl) | cases hsl
 have C := λ t tk (hA : PE X e t) (hK : PE X ix tk) => z4y (pos := pos) hA (z4d hv hK q9Y sub) (by cases e <;> rfl) (by cases e <;> rfl) rfl
 split at h
 ·rename_i ds hi
  cases hra : ra with
  | none => rw [hra] at h; cases h
  | some q =>
   rw [hra] at h
   have A := he q hra
   cases q with
   | ex c =>
    cases h
    exact (C _ _ A q1g).weak λ Dn σ H ⟨H0, O, W, R, fr, fo, sm, k⟩ => ⟨O, W, R, q4f (Q := λ _ _ => False) R fr sm k⟩
   | ok d cl =>
    cases hrb : rb with
    | none => rw [hrb] at h; cases h
    | some q =>
     rw [hrb] at h
     have B := hx q hrb
     cases q with
     | ex c =>
      cases h
      exact (C _ _ A B).weak λ Dn σ H ⟨H0, O, W, R, fr, fo, sm, k⟩ => ⟨O, W, R, λ v H1 s1 g => by
       have R1 := R.mono s1
       obtain ⟨a, xs, ds0, e0, e1, e2, e3, e4⟩ := R1.own i _ hi
       exact ⟨.ref a, e1, O, W, R1, q4f (Q := λ _ _ => False) R1 fr (sm.trans s1) k⟩⟩
     | ok dk ck =>
      have h' : (match (generalizing := false) dk with
       | .int k => (match q1v ds.length k with
        | some j => if stro d cl then some (Out.nx (δ.set i (.own (.lst (ds.set j d))))) else none
        | none => none)
       | _ => none) = some o := h
      split at h'
      ·rename_i k0
       split at h'
       ·rename_i j hj
        split at h'
        ·rename_i m
         cases h'
         exact (C _ _ A B).weak λ Dn σ H ⟨H0, O, W, R, fr, fo, sm, k⟩ => ⟨O, W, R, λ v H1 s1 g => by
          have R1 := R.mono s1
          obtain ⟨a, xs, ds0, e0, e1, e2, e3, e4⟩ := R1.own i _ hi
          cases e0
          refine ⟨.ref a, e1, O, W, R1, λ y H2 s2 g2 => ?_⟩
          have R2 := R1.mono s2
          refine ⟨a, xs, k0, j, rfl, g2.int (R1.hid.mono s2), s2 _ _ e3, by rw [e4.length]; exact hj, ?_⟩
          exact k σ _ W (R2.write hi e1 (RepL.set ((g.mono s2).stro ((R.hid.mono s1).mono s2) m) j (e4.mono s2.wo))) fr (q3c ((sm.trans s1).trans s2) (fr a e2))⟩
        ·cases h'
       ·cases h'
      ·cases h'
 ·cases h
theorem RSt.freeze {D : Dm} {H : Hp} {σ : St} {O W : List Addr} {d : DV} (R : RSt D H σ δ O W) (hi : δ[i]? = some (.own d)) : ∃ W', (∀ a ∈ W', a ∈ W) /\ RSt D H σ (δ.set i (.val d)) O W' := by
 obtain ⟨a, xs, ds, e0, e1, e2, e3, e4⟩ := R.own i d hi
 subst e0
 have hl : i < δ.length := (List.getElem?_eq_some_iff.mp hi).1
 have sub : ∀ b ∈ O ++ W.filter (λ b => decide (b ≠ a)), b ∈ O ++ W := λ b hb => by
  rcases List.mem_append.mp hb with z | z
  ·exact List.mem_append_left _ z
  ·exact List.mem_append_right _ (List.mem_filter.mp z).1
 have hao : a ∉ O ++ W.filter (λ b => decide (b ≠ a)) := λ z => by
  rcases List.mem_append.mp z with z | z
  ·exact R.hid.dj a e2 z
  ·exact absurd rfl (of_decide_eq_true (List.mem_filter.mp z).2)
 refine ⟨W.filter λ b => decide (b ≠ a), λ b hb => (List.mem_filter.mp hb).1, ⟨λ j d h => ?_, λ j ds' h => ?_, λ j k b d1 d2 h1 h2 q1 q2 => ?_, λ j d h => ?_, λ j d h => by
   have hj := q0f h (by intro z; cases z)
   rw [List.getElem?_set_ne (Ne.symm hj)] at h
   obtain ⟨⟨p1, L, f0, f1, f2, f3⟩, u, n⟩ := R.o2 j d h
   refine ⟨⟨p1, L, f0, f1, f2.sub λ b hb hbw => List.mem_filter.mpr ⟨hbw, decide_eq_true λ z => f3 i _ a hi e1 (by rw [← z]; exact hb)⟩, λ k d2 b q q2 => ?_⟩, λ k d2 q => ?_, λ k d2 q => ?_⟩
   ·have hk := q0f q (by intro z; cases z)
    rw [List.getElem?_set_ne (Ne.symm hk)] at q
    exact f3 k d2 b q q2
   ·have hk := q0f q (by intro z; cases z)
    rw [List.getElem?_set_ne (Ne.symm hk)] at q
    exact u k d2 q
   ·have hk := q0f q (by intro z; cases z)
    rw [List.getElem?_set_ne (Ne.symm hk)] at q
    exact n k d2 q, by rw [List.length_set]; exact R.len,
  ⟨λ b hb => R.hid.ot b (sub b hb), Same.refl _, λ b hb => R.hid.wl b (List.mem_filter.mp hb).1, λ b hb => R.hid.dj b (List.mem_filter.mp hb).1⟩⟩⟩
 ·by_cases hj : j = i
  ·subst hj
   obtain ⟨_, e⟩ := q2G h
   cases e
   exact ⟨.ref a, e1, q0B.mpr ⟨a, xs, rfl, by rw [q0y hao]; exact e3, e4.mono (q0O sub)⟩⟩
  ·rw [List.getElem?_set_ne (Ne.symm hj)] at h
   obtain ⟨v, q1, q2⟩ := R.val j d h
   exact ⟨v, q1, q2.mono (q0O sub)⟩
 ·have hj := q0f h (by intro z; cases z)
  rw [List.getElem?_set_ne (Ne.symm hj)] at h
  obtain ⟨b, ys, ds1, q0, q1, q2, q3, q4⟩ := R.own j ds' h
  refine ⟨b, ys, ds1, q0, q1, List.mem_filter.mpr ⟨q2, decide_eq_true λ z => hj (R.inj j i a ds' _ h hi (by rw [← z]; exact q1) e1)⟩, q3, q4.mono (q0O sub)⟩
 ·have n1 := q0f h1 (by intro z; cases z)
  have n2 := q0f h2 (by intro z; cases z)
  rw [List.getElem?_set_ne (Ne.symm n1)] at h1
  rw [List.getElem?_set_ne (Ne.symm n2)] at h2
  exact R.inj j k b d1 d2 h1 h2 q1 q2
 ·have hj := q0f h (by intro z; cases z)
  rw [List.getElem?_set_ne (Ne.symm hj)] at h
  obtain ⟨⟨t, ts, p1, ys, ds1, es, f0, f1, f2, f3, f4, f5, f6, f7⟩, u⟩ := R.ot j d h
  refine ⟨⟨t, ts, p1, ys, ds1, es, f0, f1, (q0O sub).tseq f2, List.mem_filter.mpr ⟨f3, decide_eq_true λ z => f7 i _ hi (by rw [z]; exact e1)⟩, f4, f5.mono (q0O sub), f6.mono (q0O sub), λ k d2 q => ?_⟩, λ k d2 q => ?_⟩
  ·have hk := q0f q (by intro z; cases z)
   rw [List.getElem?_set_ne (Ne.symm hk)] at q
   exact f7 k d2 q
  ·have hk := q0f q (by intro z; cases z)
   rw [List.getElem?_set_ne (Ne.symm hk)] at q
   exact u k d2 q
theorem q7t {d : DV} (hi : δ[i]? = some (.own d)) (h : PSs X rest (dS X.D E (δ.set i (.val d)) o)) : PSs X rest (dS X.D E δ o) := h.weak λ Dn σ H ⟨H0, O, W, R, fr, fo, sm, k⟩ => by
 obtain ⟨W', hs, R'⟩ := R.freeze hi
 exact ⟨H0, O, W', R', λ a ha => fr a (hs a ha), fo, sm, k⟩
end
end L2
end
section
namespace L2
open PySem PySem.Spec PyProof.Rows
section
variable {X : Cx} {E : St -> XK} {δ δ1 : List Sv} {o : Out} {e c : Expr} {pos pos' : Pos} {ra : Option Re} {i : Nat} {x : Str}
theorem Got.seq {D : Dm} {O W : List Addr} {H0 H : Hp} {d : DV} {ys : List DV} {b : Bool} {c : Cl} {v : V} (g : Got D O W H0 H d c v) (hd : Hid O W H0 H) (hc : c = .strong \/ c = .fresh) (hk : q7U d = some (b, ys)) : ∃ a xs, v = .ref a /\ (SqL D.K H a xs \/ SqT D.K H a xs) /\ RepL D (L2.wo (O ++ W) H) ys xs := by
 have hw : c ≠ .weak := by rcases hc with z | z <;> (rw [z]; intro q; cases q)
 unfold q7U at hk
 split at hk
 ·cases hk
  obtain ⟨a, xs, e1, e2, e3⟩ := g.items hd hw
  exact ⟨a, xs, e1, .inl (SqL.of e2), e3⟩
 ·cases hk
  obtain ⟨a, xs, e1, e2, e3⟩ := g.itemsT hd hw
  exact ⟨a, xs, e1, .inr e2, e3⟩
 ·cases hk
theorem q7z {apos cpos npos : Pos} (hv : PE X (.Name x npos) (tVar i)) (he : ∀ q, ra = some q -> PE X e (dE X.D E δ q)) (hs : q0s e = false) (hline : (apos.endLine == cpos.line) = true)
  (h : (match δ[i]? with
   | some (.own (.lst ds)) => Re.thnS δ ra λ d c => if c = .strong \/ c = .fresh then (match q7U d with
    | some (_, ys) => if ds.length + ys.length <= mostLen then some (.nx (δ.set i (.own (.lst (ds ++ ys))))) else none
    | none => none) else none
   | _ => none) = some o) : PS X (.Expr (.Call (.Attribute (.Name x npos) "extend" apos) [e] [] cpos) pos) (dS X.D E δ o) := by
 split at h
 ·rename_i ds hi
  have C := λ t (hA : PE X e t) => q4z (pos := pos) (z3o PySem.F.plainAttrs_list PySem.F.slot_list_extend PySem.F.type_list_extend z3p hv (q1h hA q3r (q0r hs)) rfl (by rw [q0r hs]; rfl) hline (q0r hs) rfl) rfl
  cases hra : ra with
  | none => rw [hra] at h; cases h
  | some q =>
   rw [hra] at h
   have A := he q hra
   cases q with
   | ex c =>
    cases h
    exact (C _ A).weak λ Dn σ H ⟨H0, O, W, R, fr, fo, sm, k⟩ => by
     obtain ⟨a, xs, ds0, e0, e1, e2, e3, e4⟩ := R.own i _ hi
     exact ⟨.ref a, e1, .inl ⟨rfl, xs, SqL.of e3⟩, O, W, R, q4f (Q := λ _ _ => False) R fr sm k⟩
   | ok d cl =>
    have h' : (if cl = .strong \/ cl = .fresh then (match q7U d with
     | some (_, ys) => if ds.length + ys.length <= mostLen then some (Out.nx (δ.set i (.own (.lst (ds ++ ys))))) else none
     | none => none) else none) = some o := h
    split at h'
    ·rename_i hcl
     split at h'
     ·rename_i b ys hk
      split at h'
      ·rename_i m
       cases h'
       exact (C _ A).weak λ Dn σ H ⟨H0, O, W, R, fr, fo, sm, k⟩ => by
        obtain ⟨a, xs, ds0, e0, e1, e2, e3, e4⟩ := R.own i _ hi
        cases e0
        refine ⟨.ref a, e1, .inl ⟨rfl, xs, SqL.of e3⟩, O, W, R, λ v H1 s1 g => ?_⟩
        have R1 := R.mono s1
        obtain ⟨a2, xs2, f1, f2, f3⟩ := g.seq (R.hid.mono s1) hcl hk
        refine ⟨a, a2, xs, xs2, rfl, by rw [f1], s1 _ _ e3, f2, by rw [e4.length, f3.length]; exact Nat.le_trans m (by decide), ?_⟩
        exact k σ _ W (R1.write hi e1 ((e4.mono s1.wo).append f3)) fr (q3c (sm.trans s1) (fr a e2))
      ·cases h'
     ·cases h'
    ·cases h'
 ·cases h
theorem q5V {x y : Str} {a b : Expr} {px py pt pt2 : Pos} {kt k2 : Nat} {env : Env} (hk : env.scope.kind = .function) (hx : env.scope.names.lookup x = some .local) (hy : env.scope.names.lookup y = some .local) (hxy : x ≠ y) (hl : (py.line == px.line) = true)
  (ha : q0s a = false) (hb : q0s b = false) (hf : [a, b].all (foldedForSure 8) = false) (hc : [a, b].all (constantsAlone 8) = false) :
  swappedStores [.Tuple [.Name x px, .Name y py] kt pt] (.Tuple [a, b] k2 pt2) env = pure (some [x, y]) := by
 have hbk : env.blockKind = .function := by unfold Env.blockKind; rw [hk]; rfl
 have sa : ∀ e : Expr, q0s e = false -> (match e with | .Starred .. => true | _ => false) = false := λ e h => by cases e <;> first | rfl | cases h
 have hyx : (x == y) = false := beq_eq_false_iff_ne.mpr hxy
 unfold swappedStores
 simp only [hbk, Env.kindOf, hx, hy, hf, hc, sa a ha, sa b hb, List.any_cons, List.any_nil, List.filterMap_cons, List.filterMap_nil, List.head?_cons, Option.map_some, Option.getD_some, Expr.pos, hl]
 simp [hl, List.eraseDups_cons, hyx, hxy, Ne.symm hxy]
 rintro (h | h)
 ·exfalso; cases a <;> first | exact Bool.noConfusion h | exact Bool.noConfusion ha
 ·exfalso; cases b <;> first | exact Bool.noConfusion h | exact Bool.noConfusion hb
theorem z1g {is : List Nat} {i j : Nat} {x y : Str} {a b : Expr} {px py pt pt2 : Pos} {kt k2 : Nat} {rs : Option Rs} (hcm : X.calm = true) (hN : X.N.Nodup) (hi : X.N[i]? = some x) (hj : X.N[j]? = some y) (hij : i ≠ j) (hx : X.env.scope.names.lookup x = some .local) (hy : X.env.scope.names.lookup y = some .local) (hl : (py.line == px.line) = true)
  (ha : q0s a = false) (hb : q0s b = false) (hf : [a, b].all (foldedForSure 8) = false) (hc : [a, b].all (constantsAlone 8) = false) (hA : ∀ q, rs = some q -> PA X [a, b] (dA X.D E δ q)) (h : (Rs.thnS δ rs λ l => parD δ [i, j] l) = some o) :
  PS X (.Assign [.Tuple [.Name x px, .Name y py] kt pt] (.Tuple [a, b] k2 pt2) pos) (dS X.D E δ o) := by
 have hxy : x ≠ y := λ z => hij (by
  subst z
  have h1 := (List.getElem?_eq_some_iff.mp hi)
  have h2 := (List.getElem?_eq_some_iff.mp hj)
  obtain ⟨l1, e1⟩ := h1
  obtain ⟨l2, e2⟩ := h2
  exact (List.getElem_inj hN).mp (e1.trans e2.symm))
 have C : ∀ t, PA X [a, b] t -> PS X (.Assign [.Tuple [.Name x px, .Name y py] kt pt] (.Tuple [a, b] k2 pt2) pos) (tPar i j t) := λ t hA => (λ pins s σ H D I q => z2Z (px := px) (py := py) (pt := pt) (kt := kt) (k2 := k2) (pt2 := pt2) (pos := pos) hcm hN hi hj hij hx hy hA (q5V I.ok.kind hx hy hxy hl ha hb hf hc) rfl pins s σ H D I q)
 cases hrs : rs with
 | none => rw [hrs] at h; cases h
 | some q =>
  rw [hrs] at h
  have A := hA q hrs
  cases q with
  | ex c => cases h; exact (C _ A).weak λ Dn σ H ⟨H0, O, W, R, fr, fo, sm, k⟩ => ⟨O, W, R, λ H' C m s => k σ H' W C m (R.mono s) fr (sm.trans s)⟩
  | ok l =>
   have h' : parD δ [i, j] l = some o := h
   unfold parD at h'
   split at h'
   ·rename_i i' j' d cd d' cd' q1
    cases q1
    split at h'
    ·rename_i hs
     cases h'
     refine (C _ A).weak λ Dn σ H ⟨H0, O, W, R, fr, fo, sm, k⟩ => ⟨O, W, R, λ vs H1 s1 g => ?_⟩
     obtain ⟨v, w, e1, g1, g2⟩ := g.two
     have hd := R.hid.mono s1
     refine ⟨v, w, e1, k _ H1 W (((R.mono s1).setVal (g1.stro hd hs.2.1) i).setVal (g2.stro hd hs.2.2) j) fr (sm.trans s1)⟩
    ·cases h'
   ·cases h'
theorem z0u {es : List Expr} {kk : Nat} {tp : Pos} {rs : Option Rs} (ha : ∀ q, rs = some q -> PA X es (dA X.D E δ q)) (h : (Rs.thnS δ rs λ l => q7F l) = some o) : PS X (.Return (some (.Tuple es kk tp)) pos) (dS X.D E δ o) := by
 cases hrs : rs with
 | none => rw [hrs] at h; cases h
 | some q =>
  rw [hrs] at h
  have A := ha q hrs
  cases q with
  | ex c => cases h; exact (q5E (q6I A)).weak λ Dn σ H ⟨H0, O, W, R, fr, fo, sm, k⟩ => ⟨O, W, R, q4f (Q := λ _ _ => False) R fr sm k⟩
  | ok l =>
   have h' : q7F l = some o := h
   unfold q7F at h'
   split at h'
   ·rename_i ds l'
    split at h'
    ·rename_i hb
     cases h'
     refine (q5E (q6I A)).weak λ Dn σ H ⟨H0, O, W, R, fr, fo, sm, k⟩ => ⟨O, W, R, λ vs H1 s1 g => ?_⟩
     have hd := R.hid.mono s1
     cases g with
     | cons g0 g1 =>
      rename_i v vs
      obtain ⟨a, xs, e1, e0, e2, e3⟩ := g0
      have r1 := g1.stros hd hb.2
      subst e1
      refine ⟨?_, λ q hq => ?_⟩
      ·rw [List.length_cons, g1.length]
       exact Nat.le_trans hb.1 (by decide)
      ·have hqo : q ∉ O := λ z => hd.ot q (List.mem_append_left _ z) (s1.free hq)
       have ha1 : H1 a = some (.lst xs) := q1w _ _ e2
       have up : ∀ {Z : List Addr}, Same (L2.wo Z H1) (L2.wo Z (upd H1 q (.tup (.ref a :: vs)))) := λ {Z} => (q0q hq).wo
       have sub : Same (L2.wo (O ++ W) H1) (L2.wo (a :: O) H1) := q0O λ b hb => by
        rcases List.mem_cons.mp hb with z | z
        ·rw [z]; exact List.mem_append_right _ e0
        ·exact List.mem_append_left _ z
       refine (k : dEnd X.D E H0 O Dn (.rtt (.tup (.lst ds :: l'.map (·.1))))) (.ref q) _ ((sm.trans s1).trans (q0q hq)) (.inl ⟨q, vs, a, xs, ds, _, rfl, rfl, SqT.of (by rw [q0y hqo]; exact q0V), fr a e0, q0q hq _ _ ha1, (e3.mono sub).mono up, (r1.mono sub).mono up⟩)
    ·cases h'
   ·cases h'
end
end L2
end
section
namespace L2
open PySem PySem.Spec PyProof.Rows
theorem PSs.any {X : Cx} {body : List Stmt} {ι : Sort _} {t : ι -> TS} (h : ∀ k, PSs X body (t k)) : PSs X body (λ D σ H => ∃ k, t k D σ H) := λ pins s σ H D I ⟨k, q⟩ => h k pins s σ H D I q
theorem PT.any {X : Cx} {e : Expr} {ι : Sort _} {t : ι -> TT} (h : ∀ k, PT X e (t k)) : PT X e (λ σ H Q => ∃ k, t k σ H Q) := λ pins s σ H Q I ⟨k, q⟩ => h k pins s σ H Q I q
structure Lp (H0 H1 : Hp) (O W : List Addr) : Prop where
 out : ∀ {H : Hp}, Same (L2.wo W H1) H -> Same H0 H
 outW : ∀ {a : Addr}, L2.wo W H1 a = none -> H0 a = none
 in1 : ∀ a ∈ W, L2.wo W H1 a = none
 in2 : ∀ a ∈ O, L2.wo W H1 a ≠ none
 wsame : ∀ {H : Hp}, Same (L2.wo W H1) H -> Same (L2.wo (O ++ W) H1) (L2.wo (O ++ W) H)
theorem Lp.mk' {H0 H1 : Hp} {O W : List Addr} (fr : ∀ a ∈ W, H0 a = none) (fo : ∀ a ∈ O, H0 a ≠ none) (sm : Same H0 H1) : Lp H0 H1 O W where
 out := λ {H} s b u e => s b u (by
  rw [q0y λ z => by rw [fr b z] at e; cases e]
  exact sm b u e)
 outW := λ {a} q => by
  by_cases z : a ∈ W
  ·exact fr a z
  ·rw [q0y z] at q; exact sm.free q
 in1 := λ a ha => z3j ha
 in2 := λ a ha => by
  rw [q0y λ z => fo a ha (fr a z)]
  intro q
  exact fo a ha (sm.free q)
 wsame := λ {H} s b u e => by
  obtain ⟨hb, e⟩ := q1c e
  rw [q0y hb]
  exact s b u (by rw [q0y λ z => hb (List.mem_append_right _ z)]; exact e)
theorem Lp.gotR {H0 H1 : Hp} {O W : List Addr} {D : Dm} {H : Hp} {d : DV} {fr : Bool} {v : V} (L : Lp H0 H1 O W) (g : GotR D O (L2.wo W H1) H d fr v) : GotR D O H0 H d fr v := by
 cases fr with
 | false => exact g
 | true =>
  obtain ⟨p, xs, ds, e1, e2, e3, e4, e5⟩ := g
  exact ⟨p, xs, ds, e1, e2, L.outW e3, e4, e5⟩
theorem Lp.gotT {H0 H1 : Hp} {O W : List Addr} {D : Dm} {H : Hp} {d : DV} {v : V} (L : Lp H0 H1 O W) (g : GotT D O (L2.wo W H1) H d v) : GotT D O H0 H d v := by
 rcases g with ⟨t, ts, p, xs, ds, es, e1, e2, e0, e3, e4, e5, e6⟩ | ⟨xs, e1, e2⟩
 ·exact .inl ⟨t, ts, p, xs, ds, es, e1, e2, e0, L.outW e3, e4, e5, e6⟩
 ·exact .inr ⟨xs, e1, e2.since λ a ha => L.outW ha⟩
section
variable {X : Cx} {E : St -> XK} {δ : List Sv} {tgE iter c : Expr} {body : List Stmt} {o : Out} {pos : Pos} {tg : Tg} {ri : Option Ri} {evB : List Sv -> Option Out} {evC : List Sv -> Option Rt}
theorem z1M (hp : PassesOwn (model X.prog X.w) X.A X.env X.xe) (hc : X.calm = true) (hi : ∀ q, ri = some q -> PI X tgE iter (dI X.D E δ q)) (hG : PG X tgE (gT X.K tg)) (hb : ∀ δ' o, evB δ' = some o -> PSs X body (dS X.D E δ' o)) (hset : q2B iter = false)
  (h : (Ri.thnS δ ri λ ds c => if c = .strong \/ c = .fresh then q1y tg evB ds δ else none) = some o) : PS X (.For tgE iter body [] pos) (dS X.D E δ o) := by
 have B : PSs X body (λ D σ H => ∃ k : { p : List Sv × Out // evB p.1 = some p.2 }, dS X.D E k.1.1 k.1.2 D σ H) := PSs.any λ k => hb k.1.1 k.1.2 k.2
 cases hri : ri with
 | none => rw [hri] at h; cases h
 | some q =>
  rw [hri] at h
  have A := hi q hri
  cases q with
  | ex c => cases h; exact (z0y hp hc A hG B (q4V hset)).weak λ Dn σ H ⟨H0, O, W, R, fr, fo, sm, k⟩ => ⟨O, W, R, λ H' C m s => k σ H' W C m (R.mono s) fr (sm.trans s)⟩
  | ok ds c =>
   have h' : (if c = .strong \/ c = .fresh then q1y tg evB ds δ else none) = some o := h
   split at h'
   ·rename_i m
    refine (z0y hp hc A hG B (q4V hset)).weak λ Dn σ H ⟨H0, O, W, R, fr, fo, sm, k⟩ => ⟨O, W, R, λ J H1 s1 w => ?_⟩
    have R1 := R.mono s1
    have L := Lp.mk' fr fo (sm.trans s1)
    have w : Wk X.D J ds (O ++ W) (O ++ W) H1 := by
     rcases m with m | m <;> subst m <;> exact w
    refine ⟨λ i n σ H => n = ds.length - i /\ i <= ds.length /\ ∃ δi W', q1y tg evB (ds.drop i) δi = some o /\ RSt X.D H σ δi O W' /\ (∀ a ∈ W', L2.wo W H1 a = none) /\ Same (L2.wo W H1) H,
     ⟨ds.length, rfl, Nat.zero_le _, δ, W, h', R1, L.in1, q1w⟩, ?_⟩
    rintro i n σ2 H2 ⟨rfl, hi, δi, W2, hgo, R2, b1, b2⟩
    by_cases hlt : i < ds.length
    ·refine .inr ⟨w.go i H2 (L.wsame b2) hlt, λ σ H => ∃ δi W', q1y tg evB (ds.drop (i + 1)) δi = some o /\ RSt X.D H σ δi O W' /\ (∀ a ∈ W', L2.wo W H1 a = none) /\ Same (L2.wo W H1) H,
      λ σ' H' q => ⟨ds.length - (i + 1), by omega, rfl, hlt, q⟩, λ x H3 y => ?_⟩
     have y1 := w.same i H2 x H3 y
     have y3 : Rep X.D (L2.wo (O ++ W2) H3) ds[i] x := w.yld i H2 x H3 _ (O ++ W2) (L.wsame b2) (L.wsame b2) y (List.getElem?_eq_getElem hlt) λ a ha => ⟨R2.hid.ot a ha, by
      rcases List.mem_append.mp ha with z | z
      ·exact .inl (List.mem_append_left _ z)
      ·have q := b1 a z
       by_cases hw : a ∈ W
       ·exact .inl (List.mem_append_right _ hw)
       ·rw [q0y hw] at q; exact .inr q⟩
     rw [List.drop_eq_getElem_cons hlt] at hgo
     unfold q1y at hgo
     split at hgo
     ·cases hgo
     ·rename_i δ1 hb1
      refine q5R (R2.mono y1) y3 hb1 λ σ3 R3 => ?_
      split at hgo
      ·rename_i δ2 hev
       exact ⟨⟨⟨δ1, .nx δ2⟩, hev⟩, L2.wo W H1, O, W2, R3, b1, L.in2, b2.trans y1, λ σ' H' W' R' fr' sm' => ⟨δ2, W', hgo, R', fr', sm'⟩⟩
      ·rename_i hne
       refine ⟨⟨⟨δ1, o⟩, hgo⟩, L2.wo W H1, O, W2, R3, b1, L.in2, b2.trans y1, ?_⟩
       cases o with
       | nx δ2 => exact absurd hgo (hne δ2)
       | rt d fr' => exact λ v H' s' g => k v H' (L.out s') (L.gotR g)
       | rtt d => exact λ v H' s' g => k v H' (L.out s') (L.gotT g)
       | ex c' δ' => exact λ σ' H' W' C m R' fr' sm' => k σ' H' W' C m R' (λ a ha => L.outW (fr' a ha)) (L.out sm')
    ·have e : i = ds.length := by omega
     subst e
     rw [List.drop_length] at hgo
     cases hgo
     exact .inl ⟨w.stop H2 (L.wsame b2), k σ2 H2 W2 R2 (λ a ha => L.outW (b1 a ha)) (L.out b2)⟩
   ·cases h'
theorem q8a {n : Nat} (hp : PassesOwn (model X.prog X.w) X.A X.env X.xe) (hc : ∀ δ' r, evC δ' = some r -> PT X c (dT X.D E δ' r)) (hb : ∀ δ' o, evB δ' = some o -> PSs X body (dS X.D E δ' o)) (h : q0Y evC evB n δ = some o) : PS X (.While c body [] pos) (dS X.D E δ o) := by
 have B : PSs X body (λ D σ H => ∃ k : { p : List Sv × Out // evB p.1 = some p.2 }, dS X.D E k.1.1 k.1.2 D σ H) := PSs.any λ k => hb k.1.1 k.1.2 k.2
 have T : PT X c (λ σ H Q => ∃ k : { p : List Sv × Rt // evC p.1 = some p.2 }, dT X.D E k.1.1 k.1.2 σ H Q) := PT.any λ k => hc k.1.1 k.1.2 k.2
 refine (q9B hp T B).weak λ Dn σ H ⟨H0, O, W, R, fr, fo, sm, k⟩ => ?_
 have L := Lp.mk' fr fo sm
 refine ⟨λ m σ H2 => ∃ δi W', q0Y evC evB m δi = some o /\ RSt X.D H2 σ δi O W' /\ (∀ a ∈ W', L2.wo W H a = none) /\ Same (L2.wo W H) H2, ⟨n, δ, W, h, R, L.in1, q1w⟩, ?_⟩
 rintro m σ2 H2 ⟨δi, W2, hgo, R2, b1, b2⟩
 cases m with
 | zero => cases hgo
 | succ m =>
  unfold q0Y at hgo
  split at hgo
  ·cases hgo
  ·rename_i c' hev
   cases hgo
   exact ⟨⟨⟨δi, .ex c'⟩, hev⟩, O, W2, R2, λ H' C m s => k σ2 H' W2 C m (R2.mono s) (λ a ha => L.outW (b1 a ha)) (L.out (b2.trans s))⟩
  ·rename_i hev
   cases hgo
   refine ⟨⟨⟨δi, .ok false⟩, hev⟩, O, W2, R2, λ H' s => iteF ?_⟩
   exact k σ2 H' W2 (R2.mono s) (λ a ha => L.outW (b1 a ha)) (L.out (b2.trans s))
  ·rename_i hev
   refine ⟨⟨⟨δi, .ok true⟩, hev⟩, O, W2, R2, λ H' s => iteT ?_⟩
   refine ⟨λ σ H2 => ∃ δi W', q0Y evC evB m δi = some o /\ RSt X.D H2 σ δi O W' /\ (∀ a ∈ W', L2.wo W H a = none) /\ Same (L2.wo W H) H2, λ σ' H' q => ⟨m, Nat.lt_succ_self m, q⟩, ?_⟩
   split at hgo
   ·rename_i δ2 hev2
    exact ⟨⟨⟨δi, .nx δ2⟩, hev2⟩, L2.wo W H, O, W2, R2.mono s, b1, L.in2, b2.trans s, λ σ' H' W' R' fr' sm' => ⟨δ2, W', hgo, R', fr', sm'⟩⟩
   ·rename_i hne
    refine ⟨⟨⟨δi, o⟩, hgo⟩, L2.wo W H, O, W2, R2.mono s, b1, L.in2, b2.trans s, ?_⟩
    cases o with
    | nx δ2 => exact absurd hgo (hne δ2)
    | rt d fr' => exact λ v H' s' g => k v H' (L.out s') (L.gotR g)
    | rtt d => exact λ v H' s' g => k v H' (L.out s') (L.gotT g)
    | ex c' δ' => exact λ σ' H' W' C m R' fr' sm' => k σ' H' W' C m R' (λ a ha => L.outW (fr' a ha)) (L.out sm')
end
end L2
end
section
namespace L2
open PySem PySem.Spec PyProof.Rows
section
variable {X : Cx} {CX : CXT} {k : Nat} {f : Addr} {fd : FuncData} {ps ks : List Str} {sp : Sp} {E : St -> XK} {x : Str} {p pos : Pos} {e : Expr} {es : List Expr} {kws : List Keyword} {t tk : TA} {g : List Value -> List Value -> List Value} {gV : List V -> List V -> List V}
end
section
variable {X : Cx} {E : St -> XK} {δ : List Sv} {re : Re} {rs : Option Rs}
end
section
variable {X : Cx} {E : St -> XK} {δ : List Sv} {e : Expr} {es : List Expr} {pos p : Pos} {re : Re} {rs rs' : Option Rs} {k : Nat} {fa : Addr} {fd : FuncData} {ps : List Str} {x : Str}
noncomputable def q3v {α : Type} (n : Nat) (us ws : List α) : List α := if us.length + 1 = n /\ ws.length = 1 then us ++ ws else []
theorem q9p {n : Nat} {vs zs : List V} {us ws : List Value} (r : Vals vs us) (q : Vals zs ws) : Vals (q3v n vs zs) (q3v n us ws) := by
 unfold q3v
 rw [r.length, q.length]
 split
 ·exact r.append q
 ·exact .nil
end
end L2
end
section
namespace L2
open PySem PySem.Spec PyProof.Rows
noncomputable def z4H (K : PySem.W.Frag) (C : Addr) : Prop := ∃ B newId initId bmB, ExcBaseFacts B newId initId bmB /\ PySem.W.excIn K C bmB newId = true
structure XOne (K : PySem.W.Frag) (mg : Str -> Option Value) (G : Gs) (cl : List Str) (c : Str) (C : Addr) : Prop where
 mc : mg c = some (.ref C)
 ck : ClsK K C
 rk : z4H K C
 own : ∀ t ∈ cl, ∀ Ct, mg t = some (.ref Ct) -> PySem.W.kitOne K (.ref C) (.ref Ct) = some (q1I G c t) /\ (q1I G c t = true -> PySem.W.exmOne K (.ref C) (.ref Ct) = some true)
 blt : PySem.W.kitOne K (.ref C) (.type "ValueError") = some (q1I G c "ValueError")
structure XFacts (K : PySem.W.Frag) (mg : Str -> Option Value) (G : Gs) (cl : List Str) : Prop where
 one : ∀ c, (G.cls.lookup c).isSome = true -> ∃ C, XOne K mg G cl c C
 all : ∀ t ∈ cl, ∃ Ct, mg t = some (.ref Ct)
section
variable {X : Cx} {E : St -> XK} {δ : List Sv} {e : Expr} {pos p p' : Pos} {re : Re} {ra : Option Re} {G : Gs} {cl : List Str} {t : Str} {o : Out}
noncomputable def rIsx (X : Cx) : List V -> Hp -> VK -> Prop := λ xs H Q => ∃ (a C : Addr) (y : V) (c : Value) (b : Bool), xs = [.ref a, y] /\ H a = some (excO a (.ref C)) /\ ClsK X.K C /\ ((∃ Ct, y = .ref Ct /\ c = .ref Ct) \/ ∃ n, y = .ty n /\ c = .type n) /\ PySem.W.kitOne X.K (.ref C) c = some b /\ Q (.bl b) H
theorem z0e : q1J X (.builtin "isinstance") (rIsx X) := by
 intro pins s σ H xs us Q I r h
 obtain ⟨a, C, y, c, b, rfl, ea, ck, hy, hk, q⟩ := h
 obtain ⟨u, w', rfl, ru, rw'⟩ := q7v r
 cases (show u = Value.ref a from ru)
 obtain ⟨⟨oe, vs, h1, h2, _⟩, _⟩ := (show q1K X.prog X.w H s.heap a (excO a (.ref C)) from I.hok a _ ea)
 have hw : w' = c := by
  rcases hy with ⟨Ct, rfl, rfl⟩ | ⟨n, rfl, rfl⟩
  ·exact rw'
  ·exact rw'
 subst hw
 exact z1V ck I.kIn ⟨oe, h1, h2⟩ hk λ tk => ⟨.bl b, H, I.tok tk, rfl, q⟩
theorem q3R : bootBuiltins "ValueError" = some (.type "ValueError") := by decide +kernel
theorem z2d (F : XFacts X.K X.mg G cl) (hg : Gl X "isinstance") (hm : X.mg "isinstance" = none) (hgt : Gl X t) (ht : (t ∈ cl /\ (t == ("__debug__" : Str)) = false) \/ (X.mg t = none /\ t = "ValueError"))
  (ha : ∀ q, ra = some q -> PE X e (dE X.D E δ q)) (hs : q0s e = false) (h : (Re.thn ra λ y _ => (isxD G y t).map λ k => .ok (.bl k) .strong) = some re) : PE X (.Call (.Name "isinstance" p) [e, .Name t p'] [] pos) (dE X.D E δ re) := by
 have T : ∃ (v : V) (c : Value), PE X (.Name t p') (tC v) /\ ((∃ Ct, v = .ref Ct /\ c = .ref Ct) \/ ∃ n, v = .ty n /\ c = .type n) /\ ∀ c' C, XOne X.K X.mg G cl c' C -> PySem.W.kitOne X.K (.ref C) c = some (q1I G c' t) := by
  rcases ht with ⟨h1, h2⟩ | ⟨h1, h2⟩
  ·obtain ⟨Ct, hC⟩ := F.all t h1
   exact ⟨.ref Ct, .ref Ct, q8e hgt hC rfl h2, .inl ⟨Ct, rfl, rfl⟩, λ c' C x => (x.own t h1 Ct hC).1⟩
  ·subst h2
   exact ⟨.ty "ValueError", .type "ValueError", q4B hgt h1 q3R rfl (by decide +kernel) (by decide +kernel), .inr ⟨_, rfl, rfl⟩, λ c' C x => x.blt⟩
 obtain ⟨v, c, T, hv, hk⟩ := T
 have C := λ ta (hA : PE X e ta) => q3y (p := p) (pos := pos) z0e hg hm boot_isinstance (q1h hA (q1h T q3r) (q0r hs)) (by decide) (by decide) (q0r hs)
 cases hra : ra with
 | none => rw [hra] at h; cases h
 | some q =>
  rw [hra] at h
  have A := ha q hra
  cases q with
  | ex c => cases h; exact (C _ A).weak λ σ H Q ⟨O, W, R, p⟩ => ⟨O, W, R, p⟩
  | ok d dc =>
   obtain ⟨k, e1, e2⟩ := Option.map_eq_some_iff.mp (show ((isxD G d t).map λ k => Re.ok (.bl k) .strong) = some re from h)
   cases e2
   unfold isxD at e1
   split at e1
   ·rename_i c'
    split at e1
    ·rename_i hc
     cases e1
     obtain ⟨C0, x⟩ := F.one c' hc
     refine (C _ A).weak λ σ H Q ⟨O, W, R, p⟩ => ⟨O, W, R, λ v1 H1 s1 g1 => ?_⟩
     obtain ⟨a, C1, z1, z2, z3⟩ := q6k.mp (g1.all (R.hid.mono s1))
     rw [show C1 = Value.ref C0 from Option.some.inj (z2.symm.trans x.mc)] at z3
     exact ⟨a, C0, v, c, _, by rw [z1], z3, x.ck, hv, hk c' C0 x, p _ H1 s1 q2U⟩
    ·cases e1
   ·cases e1
theorem q7O {c : Str} {np cpos : Pos} (F : XFacts X.K X.mg G cl) (hc : X.calm = true) (hg : Gl X c) (hd : (c == ("__debug__" : Str)) = false) (hR : q3w X E) (ha : ∀ q, ra = some q -> PE X e (dE X.D E δ q)) (hs : q0s e = false)
  (h : (if (G.cls.lookup c).isSome then Re.thnS δ ra λ _ _ => some (.ex c δ) else none) = some o) : PS X (.Raise (some (.Call (.Name c np) [e] [] cpos)) none pos) (dS X.D E δ o) := by
 split at h
 ·rename_i hc'
  obtain ⟨C, x⟩ := F.one c hc'
  obtain ⟨B, newId, initId, bmB, FB, hx⟩ := x.rk
  cases hra : ra with
  | none => rw [hra] at h; cases h
  | some q =>
   rw [hra] at h
   have A := ha q hra
   have P := z0s (np := np) (cpos := cpos) (pos := pos) FB hc hg x.mc hx hR (q1h A q3r (q0r hs)) hd (q0r hs) rfl
   cases q with
   | ex c2 => cases h; exact P.weak λ Dn σ H ⟨H0, O, W, R, fr, fo, sm, k⟩ => ⟨O, W, R, q4f R fr sm k⟩
   | ok d dc => cases h; exact P.weak λ Dn σ H ⟨H0, O, W, R, fr, fo, sm, k⟩ => ⟨O, W, R, λ v H1 s1 g => ⟨by show 1 <= sizeLine; decide, k σ H1 W _ x.mc (R.mono s1) fr (sm.trans s1)⟩⟩
 ·cases h
theorem RSt.unset {D : Dm} {H : Hp} {σ : St} {O W : List Addr} (R : RSt D H σ δ O W) (i : Nat) : RSt D H (σ.set i none) (δ.set i .no) O W where
 val := λ j d h => by
  by_cases hj : j = i
  ·subst hj
   have hl : j < δ.length := by
    have := (List.getElem?_eq_some_iff.mp h).1
    rw [List.length_set] at this; exact this
   rw [List.getElem?_set_self hl] at h
   cases h
  ·rw [List.getElem?_set_ne (Ne.symm hj)] at h ⊢
   exact R.val j d h
 own := λ j d h => by
  by_cases hj : j = i
  ·subst hj
   have hl : j < δ.length := by
    have := (List.getElem?_eq_some_iff.mp h).1
    rw [List.length_set] at this; exact this
   rw [List.getElem?_set_self hl] at h
   cases h
  ·rw [List.getElem?_set_ne (Ne.symm hj)] at h ⊢
   exact R.own j d h
 inj := λ j k a d d' h1 h2 h3 h4 => by
  have ne : ∀ (j : Nat) d, (δ.set i .no)[j]? = some (.own d) -> j ≠ i := λ j d h z => by
   subst z
   have hl : j < δ.length := by
    have := (List.getElem?_eq_some_iff.mp h).1
    rw [List.length_set] at this; exact this
   rw [List.getElem?_set_self hl] at h
   cases h
  have nj := ne j d h1
  have nk := ne k d' h2
  rw [List.getElem?_set_ne (Ne.symm nj)] at h1 h3
  rw [List.getElem?_set_ne (Ne.symm nk)] at h2 h4
  exact R.inj j k a d d' h1 h2 h3 h4
 ot := λ j d h => by
  have nj := q0f h (by intro z; cases z)
  rw [List.getElem?_set_ne (Ne.symm nj)] at h ⊢
  obtain ⟨⟨t, ts, p, xs, ds, es, e0, e1, e2, e3, e4, e5, e6, e7⟩, u⟩ := R.ot j d h
  refine ⟨⟨t, ts, p, xs, ds, es, e0, e1, e2, e3, e4, e5, e6, λ k d2 q => ?_⟩, λ k d2 q => ?_⟩
  ·have nk := q0f q (by intro z; cases z)
   rw [List.getElem?_set_ne (Ne.symm nk)] at q ⊢
   exact e7 k d2 q
  ·have nk := q0f q (by intro z; cases z)
   rw [List.getElem?_set_ne (Ne.symm nk)] at q
   exact u k d2 q
 o2 := λ j d h => by
  have nj := q0f h (by intro z; cases z)
  rw [List.getElem?_set_ne (Ne.symm nj)] at h ⊢
  obtain ⟨⟨p, L, e0, e1, e2, e3⟩, u, n⟩ := R.o2 j d h
  refine ⟨⟨p, L, e0, e1, e2, λ k d2 a q q2 => ?_⟩, λ k d2 q => ?_, λ k d2 q => ?_⟩
  ·have nk := q0f q (by intro z; cases z)
   rw [List.getElem?_set_ne (Ne.symm nk)] at q q2
   exact e3 k d2 a q q2
  ·have nk := q0f q (by intro z; cases z)
   rw [List.getElem?_set_ne (Ne.symm nk)] at q
   exact u k d2 q
  ·have nk := q0f q (by intro z; cases z)
   rw [List.getElem?_set_ne (Ne.symm nk)] at q
   exact n k d2 q
 len := by rw [List.length_set, List.length_set]; exact R.len
 hid := R.hid
theorem z1j {body : List Stmt} {c n x : Str} {np hpos tp vp ap : Pos} {ie ic : Nat} {ob : Option Out} (F : XFacts X.K X.mg G cl) (hst : X.stack = X.env :: X.outer) (hfr : X.env.frame = some X.env.locals) (hex : X.ex = []) (hgl : Gl X c) (hc : c ∈ cl) (hd : (c == ("__debug__" : Str)) = false) (hN : X.N.Nodup) (hi : X.N[ie]? = some n) (hl : X.env.scope.names.lookup n = some .local)
  (hn1 : (n == ("__debug__" : Str)) = false) (hn2 : (n == ("__classdict__" : Str)) = false) (hi2 : X.N[ic]? = some x) (hx : Loc X.env.scope x) (hf : X.fn x = true \/ X.env.scope.names.lookup x = some .local)
  (hb : ∀ pins (E' : St -> Value -> Hp -> Prop) q, ob = some q -> PSs (X.tryIn pins E') body (dS X.D (λ σ C _ H => E' σ C H) δ q))
  (h : tryD G c ie ic ob = some o) :
  PS X (.Try body [.ExceptHandler (some (.Name c np)) (some n) [.Assign [.Name x tp] (.Name n vp) ap] hpos] [] [] pos) (dS X.D E δ o) := by
 obtain ⟨Ct, hCt⟩ := F.all c hc
 cases hob : ob with
 | none => rw [hob] at h; cases h
 | some q =>
  rw [hob] at h
  have S : ∀ ea, PSs (X.inExc ea) [.Assign [.Name x tp] (.Name n vp) ap] (tAsg (tVar ie) (q7y ic)) := λ ea => z2L (q8L (X := X.inExc ea) hN hi2 hx (q5D (X := X.inExc ea) hi (.inl hl) hn1 hn2) rfl hf)
  refine (z2S (i := ie) (cv := .ref Ct) (tb := λ E' => dS X.D (λ σ C _ H => E' σ C H) δ q) hst hfr hex hgl hCt hN hi hl (λ pins E' => hb pins E' q hob) S hd).weak λ Dn σ H ⟨H0, O, W, R, fr, fo, sm, k⟩ => ⟨H0, O, W, R, fr, fo, sm, ?_⟩
  cases q with
  | nx δ' => cases h; exact k
  | rt d f => cases h; exact k
  | rtt d => cases h; exact k
  | ex c' δ' =>
   have h' : (if (G.cls.lookup c').isSome /\ q1I G c' c /\ ie < δ'.length /\ ie ≠ ic then some (Out.nx ((δ'.set ic (.val (.exc c'))).set ie .no)) else none) = some o := h
   split at h'
   ·rename_i hh
    cases h'
    obtain ⟨hh1, hh2, hh3, hh4⟩ := hh
    obtain ⟨C0, xo⟩ := F.one c' hh1
    intro σ' H' W' C hm R' fr' sm'
    rw [show C = Value.ref C0 from Option.some.inj (hm.symm.trans xo.mc)]
    refine ⟨(xo.own c hc Ct hCt).2 hh2, λ ea hea => ?_⟩
    have hout : ea ∉ O ++ W' := R'.hid.newOut hea
    have R1 := R'.mono (q0q (o := excO ea (.ref C0)) hea)
    have rp : Rep X.D (L2.wo (O ++ W') (upd H' ea (excO ea (.ref C0)))) (.exc c') (.ref ea) := q6k.mpr ⟨ea, _, rfl, xo.mc, by rw [q0y hout]; exact q0V⟩
    refine ⟨.ref ea, List.getElem?_set_self (by rw [R'.len]; exact hh3), ?_⟩
    refine k _ _ W' ?_ fr' (sm'.trans (q0q hea))
    have R2 := ((R1.setVal rp ie).setVal rp ic).unset ie
    rw [show ((δ'.set ie (Sv.val (.exc c'))).set ic (Sv.val (.exc c'))).set ie Sv.no = (δ'.set ic (Sv.val (.exc c'))).set ie Sv.no by rw [List.set_comm _ _ hh4, List.set_set]] at R2
    exact R2
   ·cases h'
end
end L2
end
section
namespace L2
open PySem PySem.Spec PyProof.Rows
noncomputable def q8D (K : PySem.W.Frag) (w : World) (mg : Str -> Option Value) (x : Str) (kvs : List (Str × Str)) : Prop :=
 ∃ a es n, mg x = some (.ref a) /\ K.lookup a = some ⟨.type "dict", none, .dict es n, #[]⟩ /\ PySem.W.KeysLit w.params es.toList /\ ∀ k v, kvs.lookup k = some v -> v.length <= sizeLine /\ ∃ t, PySem.W.nsIn K a k = some (some (.str v t))
noncomputable def DK (K : PySem.W.Frag) (D : Dm) (G : Gs) (f : Nat) (fd : FuncData) (ps : List Str) : Prop :=
 (∀ ds, G.dfl.lookup f = some ds -> ∃ us dvs, q4a K fd ps us /\ Vals dvs us /\ ∀ H, RepL D H ds dvs) /\ ∀ n, G.kws.lookup f = some n -> KBinds K fd ps [n] (q3v ps.length) (q3v ps.length)
structure Good (sg : Sg) (G : Gs) (F : Nat -> List DV -> Option Ou) (X : Cx) (E : St -> XK) : Prop where
 N : X.N = sg.N
 nd : X.N.Nodup
 vis : ∀ x, visB sg x = true -> Vis X.env.scope x
 glo : ∀ x, gloB sg x = true -> Gl X x
 loc : ∀ x, locB sg x = true -> Loc X.env.scope x /\ (X.fn x = true \/ X.env.scope.names.lookup x = some .local)
 lcl : ∀ x, sg.sc.lookup x = some .local -> X.env.scope.names.lookup x = some .local
 cel : ∀ x, (sg.sc.lookup x = some .cell \/ sg.sc.lookup x = some .free) -> X.env.scope.names.lookup x = some .cell \/ X.env.scope.names.lookup x = some .free
 calm : X.calm = true
 hu : X.A.units + 64 < cLine
 fns : ∀ f x, sg.fn[f]? = some x -> ∃ k fa fd ps, Room k X.A /\ X.mg x = some (.ref fa) /\ PySem.W.keepIn X.K (.ref fa) = true /\ q4a X.K fd ps [] /\ (∀ ds o, F f ds = some o -> ds.length = ps.length) /\
  FnOk X.prog X.w X.K X.mg X.base (CXx X.prog X.w X.base) k fa fd ps (spF X.D ps.length (F f)) /\ DK X.K X.D G f fd ps
 blt : ∀ x ∈ sg.bl, X.mg x = none
 pas : q3i (CXx X.prog X.w X.base) X E
 con : ∀ x d, G.con.lookup x = some d -> ∃ u v, X.mg x = some u /\ RelV v u /\ ∀ H, Rep X.D H d v
 own : sg.lp = true -> PassesOwn (model X.prog X.w) X.A X.env X.xe
 xf : XFacts X.K X.mg G sg.cl
 st : sg.top = true -> X.stack = X.env :: X.outer /\ X.env.frame = some X.env.locals /\ X.ex = [] /\ q3w X E
 dcs : ∀ x kvs, G.dcs.lookup x = some kvs -> q8D X.K X.w X.mg x kvs
theorem q2p : ∀ {l : List Str}, q4w l = true -> l.Nodup
 | [], _ => List.nodup_nil
 | x :: r, h => by
  unfold q4w at h
  rw [Bool.and_eq_true] at h
  refine List.nodup_cons.mpr ⟨λ z => ?_, q2p h.2⟩
  have := h.1
  rw [List.contains_iff_mem.mpr z] at this
  cases this
section
variable {sg : Sg} {G : Gs} {F : Nat -> List DV -> Option Ou} {X : Cx} {E : St -> XK} {tg : Tg} {sc : Scope} {N' : List Str} {fr : List (Option Nat)}
theorem q1B (g : Good sg G F X E) (h : q2N sg N' fr sc tg = true) : CompScope X.N N' sc X.env.scope fr /\ (∀ (j k i : Nat), fr[j]? = some (some i) -> fr[k]? = some (some i) -> j = k) /\ ∀ i ∈ q2O tg, fr[i]? = some none := by
 unfold q2N at h
 simp only [Bool.and_eq_true, List.all_eq_true, beq_iff_eq] at h
 obtain ⟨⟨⟨⟨⟨⟨h0, h1⟩, h2⟩, h3⟩, h4⟩, h5⟩, h6⟩ := h
 have h5' : ∀ (j i : Nat), fr[j]? = some (some i) -> ∃ x, N'[j]? = some x /\ sg.N[i]? = some x /\ (x, NameKind.free) ∈ sc.names := λ j i e => by
  have hj : j < fr.length := (List.getElem?_eq_some_iff.mp e).1
  have hj' : j < N'.length := by rw [← h4]; exact hj
  have hz : (some i, N'[j]) ∈ fr.zip N' := by
   refine List.mem_of_getElem? (i := j) ?_
   rw [List.getElem?_zip_eq_some]
   exact ⟨e, List.getElem?_eq_getElem hj'⟩
  have q := h5 _ hz
  simp only [Bool.and_eq_true, beq_iff_eq, List.contains_iff_mem] at q
  exact ⟨_, List.getElem?_eq_getElem hj', q.1, q.2⟩
 refine ⟨⟨h1, q2p h2, q2p h3, h4, λ j i e => ?_, λ y hy hk => ?_⟩, λ j k i e1 e2 => ?_, h0⟩
 ·obtain ⟨x, a, b, c⟩ := h5' j i e
  exact ⟨x, a, by rw [g.N]; exact b, c⟩
 ·have q := h6 y hy
  rw [if_pos hk] at q
  simp only [Bool.or_eq_true, beq_iff_eq] at q
  exact g.cel _ q
 ·obtain ⟨x, a, b, _⟩ := h5' j i e1
  obtain ⟨x', a', b', _⟩ := h5' k i e2
  rw [b] at b'; cases b'
  exact q3x (q2p h2) a a'
theorem q1F (g : Good sg G F X E) (h : q2N sg N' fr sc tg = true) (C : Addr) (cells : List (Str × Addr)) (s₂ : Shared) (H₂ : Hp) (fp : List Addr) : Good ⟨N', sc.names, sg.fn, sg.bl, sg.cl, false, true⟩ G F (q0u X sc N' C cells s₂ H₂ fp) E0s := by
 obtain ⟨S, _, _⟩ := q1B g h
 have look : ∀ x, (q0u X sc N' C cells s₂ H₂ fp).env.scope.names.lookup x = (sc.names.lookup x).map λ k => if (k == NameKind.free && X.env.scope.kind == .function && X.env.kindOf x == some .cell) = true then NameKind.cell else k := λ x => q1Q
 have one : ∀ x k, sc.names.lookup x = some k -> k ≠ .free -> (q0u X sc N' C cells s₂ H₂ fp).env.scope.names.lookup x = some k := λ x k e hk => by
  rw [look, e, Option.map_some, if_neg]
  intro z
  simp only [Bool.and_eq_true, beq_iff_eq] at z
  exact hk z.1.1
 have two : ∀ x, sc.names.lookup x = some .free -> (q0u X sc N' C cells s₂ H₂ fp).env.scope.names.lookup x = some .cell \/ (q0u X sc N' C cells s₂ H₂ fp).env.scope.names.lookup x = some .free := λ x e => by
  rw [look, e, Option.map_some]
  split
  ·exact .inl rfl
  ·exact .inr rfl
 refine ⟨rfl, S.nd, λ x hx => ?_, λ x hx => ?_, λ x hx => ?_, λ x hx => one x _ hx (by intro z; cases z), λ x hx => ?_, g.calm, g.hu, g.fns, g.blt, ?_, g.con, λ _ => .never, g.xf, (λ z => nomatch z), g.dcs⟩
 ·unfold visB at hx
  simp only [Bool.or_eq_true, beq_iff_eq] at hx
  rcases hx with (hx | hx) | hx
  ·exact .inl (one x _ hx (by intro z; cases z))
  ·exact .inr (.inl (one x _ hx (by intro z; cases z)))
  ·exact .inr (two x hx)
 ·unfold gloB at hx
  rw [beq_iff_eq] at hx
  exact one x _ hx (by intro z; cases z)
 ·unfold locB at hx
  simp only [Bool.or_eq_true, beq_iff_eq] at hx
  rcases hx with hx | hx
  ·exact ⟨.inl (one x _ hx (by intro z; cases z)), .inr (one x _ hx (by intro z; cases z))⟩
  ·exact ⟨.inr (one x _ hx (by intro z; cases z)), .inl (by show (sc.names.lookup x == some .cell) = true; rw [hx]; rfl)⟩
 ·rcases hx with hx | hx
  ·exact .inl (one x _ hx (by intro z; cases z))
  ·exact two x hx
 ·intro pins σ H s e s' I z
  obtain ⟨_, _, _, _, _, _, _, _, _, _, q⟩ := z
  exact q.elim
theorem q4Q (g : Good sg G F X E) {i : Nat} {x : Str} (h : q7d sg i x = true) : X.N[i]? = some x /\ Vis X.env.scope x /\ (x == ("__debug__" : Str)) = false /\ (x == ("__classdict__" : Str)) = false := by
 unfold q7d at h
 simp only [Bool.and_eq_true, beq_iff_eq, bne_iff_ne, ne_eq] at h
 obtain ⟨⟨⟨h1, h2⟩, h3⟩, h4⟩ := h
 exact ⟨by rw [g.N]; exact h1, g.vis x h2, beq_eq_false_iff_ne.mpr h3, beq_eq_false_iff_ne.mpr h4⟩
theorem q6F (g : Good sg G F X E) {x : Str} {f : Expr} (h : bltB sg x f = true) : (∃ p, f = .Name x p) /\ Gl X x /\ X.mg x = none := by
 unfold bltB at h
 simp only [Bool.and_eq_true, beq_iff_eq, List.contains_iff_mem] at h
 obtain ⟨⟨h1, h2⟩, h3⟩ := h
 exact ⟨q0p h1, g.glo x h2, g.blt x h3⟩
theorem z0o (g : Good sg G F X E) (pins : List (Addr × Obj)) (E' : St -> Value -> Hp -> Prop) : Good ⟨sg.N, sg.sc, sg.fn, sg.bl, sg.cl, false, false⟩ G F (X.tryIn pins E') (λ σ C _ H => E' σ C H) :=
 ⟨g.N, g.nd, g.vis, g.glo, g.loc, g.lcl, g.cel, g.calm, g.hu, g.fns, g.blt, q7m, g.con, (λ z => nomatch z), g.xf, (λ z => nomatch z), g.dcs⟩
theorem q5i (g : Good sg G F X E) : ∀ (is : List Nat) (es : List Expr), es.length = is.length -> ((is.zip es).all λ p => match q0P p.2 with | some x => sg.N[p.1]? == some x && locB sg x | none => false) = true ->
  PGs X es (q6D is) /\ (assignEach es X.env).length = is.length /\ (assignEach es X.env).findIdx? (·.1) = none
 | [], [], _, _ => ⟨z2v, rfl, rfl⟩
 | [], _ :: _, h, _ => by cases h
 | _ :: _, [], h, _ => by cases h
 | i :: is, e :: es, hl, h => by
  rw [List.zip_cons_cons, List.all_cons, Bool.and_eq_true] at h
  obtain ⟨h1, h2⟩ := h
  obtain ⟨A, B, C⟩ := q5i g is es (by simpa using hl) h2
  split at h1
  ·rename_i x q
   obtain ⟨p, rfl⟩ := q0p q
   simp only [Bool.and_eq_true, beq_iff_eq] at h1
   have l := g.loc x h1.2
   refine ⟨z0q (q9a g.nd (by rw [g.N]; exact h1.1) l.1 l.2) A rfl, ?_, ?_⟩
   ·show (assignEach es X.env).length + 1 = is.length + 1
    rw [B]
   ·show ((false, assign (.Name x p) X.env) :: assignEach es X.env).findIdx? (·.1) = none
    rw [List.findIdx?_cons, C]; rfl
  ·cases h1
theorem q7J (g : Good sg G F X E) {tgE : Expr} (h : tgOk sg tg tgE = true) : PG X tgE (gT X.K tg) := by
 cases tg with
 | one i =>
  unfold tgOk at h
  dsimp only at h
  split at h
  ·rename_i x q
   obtain ⟨p, rfl⟩ := q0p q
   simp only [Bool.and_eq_true, beq_iff_eq] at h
   have l := g.loc x h.2
   exact q9a g.nd (by rw [g.N]; exact h.1) l.1 l.2
  ·cases h
 | many is =>
  unfold tgOk at h
  dsimp only at h
  split at h
  ·rename_i es q
   obtain ⟨k, p, rfl⟩ := q2g q
   rw [Bool.and_eq_true, Bool.and_eq_true, beq_iff_eq] at h
   obtain ⟨A, B, C⟩ := q5i g is es h.1.1 h.2
   exact z3d g.calm A B C
  ·cases h
end
section
variable (G : Gs) (F : Nat -> List DV -> Option Ou)
noncomputable def SE (m : ME) : Prop := ∀ {sg : Sg} {X : Cx} {E : St -> XK} {e : Expr} {δ : List Sv} {r : Re}, Good sg G F X E -> corE sg false m e = true -> evE G F m δ = some r -> PE X e (dE X.D E δ r)
noncomputable def ST (m : ME) : Prop := ∀ {sg : Sg} {X : Cx} {E : St -> XK} {e : Expr} {δ : List Sv} {r : Rt}, Good sg G F X E -> corE sg false m e = true -> tstD (evE G F m δ) = some r -> PT X e (dT X.D E δ r)
noncomputable def SI (m : ME) : Prop := ∀ {sg : Sg} {X : Cx} {E : St -> XK} {e tg : Expr} {δ : List Sv} {r : Ri}, Good sg G F X E -> corE sg true m e = true -> (isZp m = true -> (q2K tg).isSome = true) -> q1l (evE G F m δ) = some r -> PI X tg e (dI X.D E δ r)
noncomputable def SEs (ms : List ME) : Prop := ∀ {sg : Sg} {X : Cx} {E : St -> XK} {es : List Expr} {δ : List Sv} {r : Rs}, Good sg G F X E -> q0R sg ms es = true -> evEs G F ms δ = some r -> PA X es (dA X.D E δ r)
noncomputable def SAnd (ms : List ME) : Prop := ∀ {sg : Sg} {X : Cx} {E : St -> XK} {es : List Expr} {δ : List Sv} {pos : Pos}, Good sg G F X E -> q0R sg ms es = true ->
 (∀ r, q2T G F ms δ = some r -> PE X (.BoolOp .And es pos) (dE X.D E δ r)) /\ (∀ r, tstD (q2T G F ms δ) = some r -> PW X (.BoolOp .And es pos) (dT X.D E δ r))
noncomputable def SOr (ms : List ME) : Prop := ∀ {sg : Sg} {X : Cx} {E : St -> XK} {es : List Expr} {δ : List Sv} {pos : Pos}, Good sg G F X E -> q0R sg ms es = true ->
 (∀ r, evOr G F ms δ = some r -> PE X (.BoolOp .Or es pos) (dE X.D E δ r)) /\ (∀ r, tstD (evOr G F ms δ) = some r -> PW X (.BoolOp .Or es pos) (dT X.D E δ r))
noncomputable def S1 (m : ME) : Prop := SE G F m /\ ST G F m /\ SI G F m
end
section
variable {G : Gs} {F : Nat -> List DV -> Option Ou}
theorem S1.of {m : ME} (h : SE G F m) (hw : ∀ sg e, corE sg true m e = corE sg false m e) (ht : ∀ sg e env, corE sg false m e = true -> ∀ whole, isTrue e env whole = (do let v ← whole; standAt e.pos; holding [v] (truthy v))) : S1 G F m :=
 ⟨h, λ {sg X E e δ r} g hc q => q8g (λ z hz => h g hc hz) (ht sg e X.env hc) q, λ {sg X E e tg δ r} g hc _ q => q6B (λ z hz => h g (by rw [← hw]; exact hc) hz) q⟩
theorem S1.of2 {m : ME} (h : SE G F m) (ht : ST G F m) (hw : ∀ sg e, corE sg true m e = corE sg false m e) : S1 G F m :=
 ⟨h, ht, λ {sg X E e tg δ r} g hc _ q => q6B (λ z hz => h g (by rw [← hw]; exact hc) hz) q⟩
end
end L2
end
section
namespace L2
open PySem PySem.Spec PyProof.Rows
noncomputable def z4h : Expr -> Bool
 | .UnaryOp .Not _ _ => false | .BoolOp _ _ _ => false | .IfExp _ _ _ _ => false | .Compare _ _ _ _ => false
 | _ => true
theorem q0i {e : Expr} (h : z4h e = true) (env : Env) : ∀ whole, isTrue e env whole = (do let v ← whole; standAt e.pos; holding [v] (truthy v)) := by
 cases e with
 | UnaryOp o a p => cases o <;> first | (intro _; rfl) | cases h
 | BoolOp _ _ _ => cases h
 | IfExp _ _ _ _ => cases h
 | Compare _ _ _ _ => cases h
 | _ => intro _; rfl
section
variable {G : Gs} {F : Nat -> List DV -> Option Ou} {a b c : ME}
theorem z4Z {i : Nat} : S1 G F (.var i) := by
 refine .of (λ {sg X E e δ r} g hc h => ?_) (λ _ _ => rfl) (λ sg e env hc => ?_)
 ·unfold corE at hc
  split at hc
  ·rename_i x q
   obtain ⟨p, rfl⟩ := q0p q
   obtain ⟨h1, h2, h3, h4⟩ := q4Q g hc
   exact z2M h1 h2 h3 h4 (by unfold evE at h; exact h)
  ·cases hc
 ·unfold corE at hc
  split at hc
  ·rename_i x q
   obtain ⟨p, rfl⟩ := q0p q
   exact q0i rfl env
  ·cases hc
theorem q4G {m : ME} {k : Const} {d : DV} (hm : ∀ sg w e, corE sg w m e = true -> q2J e = some k) (he : ∀ δ, evE G F m δ = some (.ok d .strong)) (hw : ∀ sg e, corE sg true m e = corE sg false m e)
  (hp : ∀ {X : Cx} {E : St -> XK} {δ : List Sv} {j : Nat} {pos : Pos} sg e, corE sg false m e = true -> PE X (.Constant k j pos) (dE X.D E δ (.ok d .strong))) : S1 G F m := by
 refine .of (λ {sg X E e δ r} g hc h => ?_) hw (λ sg e env hc => ?_)
 ·obtain ⟨j, p, rfl⟩ := q4k (hm sg false e hc)
  rw [he] at h; cases h
  exact hp sg _ hc
 ·obtain ⟨j, p, rfl⟩ := q4k (hm sg false e hc)
  exact q0i rfl env
theorem z5q {i : Int} : S1 G F (.int i) := q4G (λ sg w e h => by unfold corE at h; exact beq_iff_eq.mp h) (λ δ => by unfold evE; rfl) (λ _ _ => rfl) λ _ _ _ => z1L
theorem s_bl {i : Bool} : S1 G F (.bl i) := q4G (λ sg w e h => by unfold corE at h; exact beq_iff_eq.mp h) (λ δ => by unfold evE; rfl) (λ _ _ => rfl) λ _ _ _ => z3P
theorem z5S : S1 G F .non := q4G (λ sg w e h => by unfold corE at h; exact beq_iff_eq.mp h) (λ δ => by unfold evE; rfl) (λ _ _ => rfl) λ _ _ _ => z1I
theorem z5V {i : Str} : S1 G F (.str i) := q4G (λ sg w e h => by unfold corE at h; rw [Bool.and_eq_true] at h; exact beq_iff_eq.mp h.1) (λ δ => by unfold evE; rfl) (λ _ _ => rfl) λ _ _ h => by
 unfold corE at h
 rw [Bool.and_eq_true, decide_eq_true_eq] at h
 exact z1W (Nat.le_trans h.2 (by decide))
theorem z5a {x : Str} : S1 G F (.glb x) := by
 refine .of (λ {sg X E e δ r} g hc h => ?_) (λ _ _ => rfl) (λ sg e env hc => ?_)
 ·unfold corE at hc
  simp only [Bool.and_eq_true, beq_iff_eq, bne_iff_ne, ne_eq] at hc
  obtain ⟨p, rfl⟩ := q0p hc.1.1
  unfold evE at h
  obtain ⟨d, h1, h2⟩ := Option.map_eq_some_iff.mp h
  cases h2
  obtain ⟨u, v, m, rv, rp⟩ := g.con x d h1
  exact (q8e (g.glo x hc.1.2) m rv (beq_eq_false_iff_ne.mpr hc.2)).weak λ σ H Q ⟨O, W, R, p⟩ => p v H (Same.refl H) (rp _)
 ·unfold corE at hc
  simp only [Bool.and_eq_true, beq_iff_eq] at hc
  obtain ⟨p, rfl⟩ := q0p hc.1.1
  exact q0i rfl env
theorem z5H {op : Operator} (ha : S1 G F a) (hb : S1 G F b) : S1 G F (.bin op a b) := by
 refine .of (λ {sg X E e δ r} g hc h => ?_) (λ _ _ => rfl) (λ sg e env hc => ?_)
 ·unfold corE at hc
  split at hc
  ·rename_i ea o eb q
   obtain ⟨p, rfl⟩ := q6s q
   simp only [Bool.and_eq_true, beq_iff_eq] at hc
   obtain ⟨⟨h1, h2⟩, h3⟩ := hc
   subst h1
   unfold evE at h
   exact z2J (λ z hz => ha.1 g h2 hz) (λ z hz => hb.1 g h3 hz) h
  ·cases hc
 ·unfold corE at hc
  split at hc
  ·rename_i q; obtain ⟨p, rfl⟩ := q6s q; exact q0i rfl env
  ·cases hc
theorem z5X (ha : S1 G F a) : S1 G F (.neg a) := by
 refine .of (λ {sg X E e δ r} g hc h => ?_) (λ _ _ => rfl) (λ sg e env hc => ?_)
 ·unfold corE at hc
  split at hc
  ·rename_i o ea q
   obtain ⟨p, rfl⟩ := q5a q
   simp only [Bool.and_eq_true, beq_iff_eq] at hc
   obtain ⟨h1, h2⟩ := hc
   subst h1
   unfold evE at h
   exact z1h (λ z hz => ha.1 g h2 hz) h
  ·cases hc
 ·unfold corE at hc
  split at hc
  ·rename_i q; obtain ⟨p, rfl⟩ := q5a q
   simp only [Bool.and_eq_true, beq_iff_eq] at hc
   obtain ⟨h1, h2⟩ := hc
   subst h1
   exact q0i rfl env
  ·cases hc
theorem z5e (ha : S1 G F a) : S1 G F (.not a) := by
 refine .of2 (λ {sg X E e δ r} g hc h => ?_) (λ {sg X E e δ r} g hc h => ?_) (λ _ _ => rfl)
 ·unfold corE at hc
  split at hc
  ·rename_i o ea q
   obtain ⟨p, rfl⟩ := q5a q
   simp only [Bool.and_eq_true, beq_iff_eq] at hc
   obtain ⟨h1, h2⟩ := hc
   subst h1
   unfold evE at h
   exact z2u (λ z hz => ha.1 g h2 hz) h
  ·cases hc
 ·unfold corE at hc
  split at hc
  ·rename_i o ea q
   obtain ⟨p, rfl⟩ := q5a q
   simp only [Bool.and_eq_true, beq_iff_eq] at hc
   obtain ⟨h1, h2⟩ := hc
   subst h1
   unfold evE at h
   exact q9U (λ z hz => ha.2.1 g h2 hz) h
  ·cases hc
theorem z5M {op : CmpOp} (ha : S1 G F a) (hb : S1 G F b) : S1 G F (.cmp op a b) := by
 refine .of2 (λ {sg X E e δ r} g hc h => ?_) (λ {sg X E e δ r} g hc h => ?_) (λ _ _ => rfl)
 ·unfold corE at hc
  split at hc
  ·rename_i ea o eb q
   obtain ⟨p, rfl⟩ := q3C q
   simp only [Bool.and_eq_true, beq_iff_eq, Bool.not_eq_true'] at hc
   obtain ⟨⟨⟨h1, h2⟩, h3⟩, h4⟩ := hc
   subst h1
   unfold evE at h
   exact z2h g.hu (λ z hz => ha.1 g h2 hz) (λ z hz => hb.1 g h3 hz) h4 h
  ·cases hc
 ·unfold corE at hc
  split at hc
  ·rename_i ea o eb q
   obtain ⟨p, rfl⟩ := q3C q
   simp only [Bool.and_eq_true, beq_iff_eq, Bool.not_eq_true'] at hc
   obtain ⟨⟨⟨h1, h2⟩, h3⟩, h4⟩ := hc
   subst h1
   unfold evE at h
   exact q9K g.hu (λ z hz => ha.1 g h2 hz) (λ z hz => hb.1 g h3 hz) h4 h
  ·cases hc
theorem z1Q {op op' : CmpOp} (ha : S1 G F a) (hb : S1 G F b) (hcc : S1 G F c) : S1 G F (.chain op op' a b c) := by
 refine .of2 (λ {sg X E e δ r} g hc h => ?_) (λ {sg X E e δ r} g hc h => ?_) (λ _ _ => rfl)
 ·unfold corE at hc
  split at hc
  ·rename_i ea o o' eb ec q
   obtain ⟨p, rfl⟩ := q3C q
   simp only [Bool.and_eq_true, beq_iff_eq, Bool.not_eq_true'] at hc
   obtain ⟨⟨⟨⟨⟨h1, h1'⟩, h2⟩, h3⟩, h4⟩, h5⟩ := hc
   subst h1 h1'
   unfold evE at h
   exact q8z g.hu (λ z hz => ha.1 g h2 hz) (λ z hz => hb.1 g h3 hz) (λ z hz => hcc.1 g h4 hz) h5 h
  ·cases hc
 ·unfold corE at hc
  split at hc
  ·rename_i ea o o' eb ec q
   obtain ⟨p, rfl⟩ := q3C q
   simp only [Bool.and_eq_true, beq_iff_eq, Bool.not_eq_true'] at hc
   obtain ⟨⟨⟨⟨⟨h1, h1'⟩, h2⟩, h3⟩, h4⟩, h5⟩ := hc
   subst h1 h1'
   unfold evE at h
   exact q7n g.hu (λ z hz => ha.1 g h2 hz) (λ z hz => hb.1 g h3 hz) (λ z hz => hcc.1 g h4 hz) h5 h
  ·cases hc
theorem z4Q (hcc : S1 G F c) (ha : S1 G F a) (hb : S1 G F b) : S1 G F (.ite c a b) := by
 refine .of2 (λ {sg X E e δ r} g hc h => ?_) (λ {sg X E e δ r} g hc h => ?_) (λ _ _ => rfl)
 ·unfold corE at hc
  split at hc
  ·rename_i ec ea eb q
   obtain ⟨p, rfl⟩ := q7H q
   simp only [Bool.and_eq_true] at hc
   obtain ⟨⟨h1, h2⟩, h3⟩ := hc
   unfold evE at h
   exact z2H (λ z hz => hcc.2.1 g h1 hz) (λ z hz => ha.1 g h2 hz) (λ z hz => hb.1 g h3 hz) h
  ·cases hc
 ·unfold corE at hc
  split at hc
  ·rename_i ec ea eb q
   obtain ⟨p, rfl⟩ := q7H q
   simp only [Bool.and_eq_true] at hc
   obtain ⟨⟨h1, h2⟩, h3⟩ := hc
   unfold evE at h
   exact q9y (λ z hz => hcc.2.1 g h1 hz) (λ z hz => ha.2.1 g h2 hz) (λ z hz => hb.2.1 g h3 hz) h
  ·cases hc
theorem s_ix (ha : S1 G F a) (hb : S1 G F b) : S1 G F (.ix a b) := by
 refine .of (λ {sg X E e δ r} g hc h => ?_) (λ _ _ => rfl) (λ sg e env hc => ?_)
 ·unfold corE at hc
  split at hc
  ·rename_i ea eb q
   obtain ⟨p, rfl⟩ := q1A q
   simp only [Bool.and_eq_true, Bool.not_eq_true'] at hc
   obtain ⟨⟨h1, h2⟩, h3⟩ := hc
   unfold evE at h
   exact z4l (λ z hz => ha.1 g h1 hz) (λ z hz => hb.1 g h2 hz) h3 h
  ·cases hc
 ·unfold corE at hc
  split at hc
  ·rename_i q; obtain ⟨p, rfl⟩ := q1A q; exact q0i rfl env
  ·cases hc
theorem s_sl (ha : S1 G F a) (hb : S1 G F b) (hcc : S1 G F c) : S1 G F (.sl a b c) := by
 refine .of (λ {sg X E e δ r} g hc h => ?_) (λ _ _ => rfl) (λ sg e env hc => ?_)
 ·unfold corE at hc
  split at hc
  ·rename_i ea es q
   obtain ⟨p, rfl⟩ := q1A q
   split at hc
   ·rename_i q2
    obtain ⟨p2, rfl⟩ := q3l q2
    simp only [Bool.and_eq_true] at hc
    obtain ⟨⟨h1, h2⟩, h3⟩ := hc
    unfold evE at h
    exact z4F (λ z hz => ha.1 g h1 hz) (λ z hz => hb.1 g h2 hz) (λ z hz => hcc.1 g h3 hz) h
   ·cases hc
  ·cases hc
 ·unfold corE at hc
  split at hc
  ·rename_i q; obtain ⟨p, rfl⟩ := q1A q; exact q0i rfl env
  ·cases hc
theorem z4R (ha : S1 G F a) (hb : S1 G F b) : S1 G F (.slf a b) := by
 refine .of (λ {sg X E e δ r} g hc h => ?_) (λ _ _ => rfl) (λ sg e env hc => ?_)
 ·unfold corE at hc
  split at hc
  ·rename_i ea es q
   obtain ⟨p, rfl⟩ := q1A q
   split at hc
   ·rename_i q2
    obtain ⟨p2, rfl⟩ := q3l q2
    simp only [Bool.and_eq_true] at hc
    obtain ⟨h1, h2⟩ := hc
    unfold evE at h
    exact z1N (λ z hz => ha.1 g h1 hz) (λ z hz => hb.1 g h2 hz) h
   ·cases hc
  ·cases hc
 ·unfold corE at hc
  split at hc
  ·rename_i q; obtain ⟨p, rfl⟩ := q1A q; exact q0i rfl env
  ·cases hc
theorem z5c (ha : S1 G F a) (hb : S1 G F b) : S1 G F (.slt a b) := by
 refine .of (λ {sg X E e δ r} g hc h => ?_) (λ _ _ => rfl) (λ sg e env hc => ?_)
 ·unfold corE at hc
  split at hc
  ·rename_i ea es q
   obtain ⟨p, rfl⟩ := q1A q
   split at hc
   ·rename_i q2
    obtain ⟨p2, rfl⟩ := q3l q2
    simp only [Bool.and_eq_true] at hc
    obtain ⟨h1, h2⟩ := hc
    unfold evE at h
    exact z1q (λ z hz => ha.1 g h1 hz) (λ z hz => hb.1 g h2 hz) h
   ·cases hc
  ·cases hc
 ·unfold corE at hc
  split at hc
  ·rename_i q; obtain ⟨p, rfl⟩ := q1A q; exact q0i rfl env
  ·cases hc
variable {ms : List ME}
theorem q5f : ∀ {sg : Sg} {ms : List ME} {es : List Expr}, q0R sg ms es = true -> es.any q0s = false
 | _, [], [], _ => rfl
 | _, [], _ :: _, h => by unfold q0R at h; cases h
 | _, _ :: _, [], h => by unfold q0R at h; cases h
 | sg, m :: ms, e :: es, h => by
  unfold q0R at h
  simp only [Bool.and_eq_true, Bool.not_eq_true'] at h
  rw [List.any_cons, h.1.2, q5f h.2]; rfl
theorem z5i (ha : SEs G F ms) : S1 G F (.lst ms) := by
 refine .of (λ {sg X E e δ r} g hc h => ?_) (λ _ _ => rfl) (λ sg e env hc => ?_)
 ·unfold corE at hc
  split at hc
  ·rename_i es q
   obtain ⟨p, rfl⟩ := q5v q
   unfold evE at h
   exact z1p (λ z hz => ha g hc hz) h
  ·cases hc
 ·unfold corE at hc
  split at hc
  ·rename_i q; obtain ⟨p, rfl⟩ := q5v q; exact q0i rfl env
  ·cases hc
theorem z5s (ha : SEs G F ms) : S1 G F (.tup ms) := by
 refine .of (λ {sg X E e δ r} g hc h => ?_) (λ _ _ => rfl) (λ sg e env hc => ?_)
 ·unfold corE at hc
  split at hc
  ·rename_i es q
   obtain ⟨k, p, rfl⟩ := q2g q
   unfold evE at h
   exact z2w (λ z hz => ha g hc hz) h
  ·cases hc
 ·unfold corE at hc
  split at hc
  ·rename_i q; obtain ⟨k, p, rfl⟩ := q2g q; exact q0i rfl env
  ·cases hc
theorem z4C {f : Nat} (ha : SEs G F ms) : S1 G F (.call f ms) := by
 refine .of (λ {sg X E e δ r} g hc h => ?_) (λ _ _ => rfl) (λ sg e env hc => ?_)
 ·unfold corE at hc
  split at hc
  ·rename_i ef es pos q
   have := q0N q
   subst this
   rw [Bool.and_eq_true, Bool.and_eq_true] at hc
   obtain ⟨⟨h1, h2⟩, h3⟩ := hc
   split at h1
   ·rename_i x qx
    obtain ⟨p, rfl⟩ := q0p qx
    simp only [Bool.and_eq_true, beq_iff_eq, bne_iff_ne, ne_eq] at h1
    obtain ⟨k, fa, fd, ps, hr, hm, hk, hb, hl, fo, dk⟩ := g.fns f x h1.1.1
    cases es with
    | nil => cases h2
    | cons y ys =>
     have ns := q5f h3
     rw [List.any_cons, Bool.or_eq_false_iff] at ns
     unfold evE at h
     exact q9M fo hl hr (g.glo x h1.1.2) hm hk hb g.pas (λ z hz => ha g h3 hz) (beq_eq_false_iff_ne.mpr h1.2) ns.1 ns.2 h
   ·cases h1
  ·cases hc
 ·unfold corE at hc
  split at hc
  ·rename_i q; have := q0N q; subst this; exact q0i rfl env
  ·cases hc
theorem s_bi {f : Bi} (ha : SEs G F ms) : S1 G F (.bi f ms) := by
 refine .of (λ {sg X E e δ r} g hc h => ?_) (λ _ _ => rfl) (λ sg e env hc => ?_)
 ·unfold corE at hc
  split at hc
  ·rename_i ef es pos q
   have := q0N q
   subst this
   rw [Bool.and_eq_true, Bool.and_eq_true] at hc
   obtain ⟨⟨h1, h2⟩, h3⟩ := hc
   obtain ⟨⟨p, rfl⟩, hg, hm⟩ := q6F g h1
   unfold evE at h
   cases es with
   | nil => cases h2
   | cons y ys =>
    have go : q0R sg ms (y :: ys) = true -> (∀ q, evEs G F ms δ = some q -> PA X (y :: ys) (dA X.D E δ q)) /\ q0s y = false /\ ys.any q0s = false := λ z => by
     have ns := q5f z
     rw [List.any_cons, Bool.or_eq_false_iff] at ns
     exact ⟨λ w hw => ha g z hw, ns.1, ns.2⟩
    cases f with
    | len => obtain ⟨A, s1, s2⟩ := go h3; exact q6Q z3r z1P hg hm boot_len (by decide) (by decide) A s1 s2 h
    | abs => obtain ⟨A, s1, s2⟩ := go h3; exact q6Q z3z z2D hg hm boot_abs (by decide) (by decide) A s1 s2 h
    | min => obtain ⟨A, s1, s2⟩ := go h3; exact q6Q (z3Z g.calm (by have := g.hu; omega)) z1C hg hm boot_min (by decide) (by decide) A s1 s2 h
    | sum => obtain ⟨A, s1, s2⟩ := go h3; exact q6Q (z3L g.calm) z1y hg hm q8t (by decide) (by decide) A s1 s2 h
    | list => obtain ⟨A, s1, s2⟩ := go h3; exact q8C z1f z0p hg hm boot_list (by decide) (by decide) A s1 s2 h
    | tuple => obtain ⟨A, s1, s2⟩ := go h3; exact q8C q9N q9s hg hm boot_tuple (by decide) (by decide) A s1 s2 h
    | _ => cases h
  ·cases hc
 ·unfold corE at hc
  split at hc
  ·rename_i q; have := q0N q; subst this; exact q0i rfl env
  ·cases hc
theorem q3L {x : Str} (h : q1i.contains x = true) : ∃ t, q3p x = some t := by
 have key : ∀ x ∈ q1i, ∃ t, q3p x = some t := by
  intro x hx
  simp only [q1i, List.mem_cons, List.not_mem_nil, or_false] at hx
  rcases hx with rfl | rfl | rfl | rfl | rfl | rfl
  ·exact ⟨"int", by decide +kernel⟩
  ·exact ⟨"bool", by decide +kernel⟩
  ·exact ⟨"str", by decide +kernel⟩
  ·exact ⟨"list", by decide +kernel⟩
  ·exact ⟨"tuple", by decide +kernel⟩
  ·exact ⟨"dict", by decide +kernel⟩
 exact key x (List.contains_iff_mem.mp h)
theorem q2e : ∀ x ∈ q1i, x ≠ "__name__" /\ (x == ("__debug__" : Str)) = false := by
 intro x hx
 simp only [q1i, List.mem_cons, List.not_mem_nil, or_false] at hx
 rcases hx with rfl | rfl | rfl | rfl | rfl | rfl <;> exact ⟨by decide +kernel, by decide +kernel⟩
theorem z5Q {t : Str} (ha : S1 G F a) : S1 G F (.isx a t) := by
 refine .of (λ {sg X E e δ r} g hc h => ?_) (λ _ _ => rfl) (λ sg e env hc => ?_)
 ·unfold corE at hc
  split at hc
  ·rename_i ef ea et pos q
   have := q0N q
   subst this
   simp only [Bool.and_eq_true, Bool.not_eq_true', beq_iff_eq, Bool.or_eq_true, List.contains_iff_mem, bne_iff_ne, ne_eq] at hc
   obtain ⟨⟨⟨⟨⟨⟨h1, h2⟩, h3⟩, h4⟩, h5⟩, h6⟩, h7⟩ := hc
   obtain ⟨⟨p, rfl⟩, hg, hm⟩ := q6F g h1
   obtain ⟨p', rfl⟩ := q0p h5
   unfold evE at h
   refine z2d g.xf hg hm (g.glo t h6) ?_ (λ z hz => ha.1 g h2 hz) h3 h
   rcases h7 with ⟨k1, k2⟩ | ⟨k1, k2⟩
   ·exact .inl ⟨k1, beq_eq_false_iff_ne.mpr k2⟩
   ·refine .inr ⟨g.blt t k1, ?_⟩
    simp only [q9j, List.mem_cons, List.not_mem_nil, or_false] at k2
    exact k2
  ·cases hc
 ·unfold corE at hc
  split at hc
  ·rename_i q
   have := q0N q
   subst this
   exact q0i rfl env
  ·cases hc
theorem z5P {ts : List Str} (ha : S1 G F a) : S1 G F (.isi a ts) := by
 refine .of (λ {sg X E e δ r} g hc h => ?_) (λ _ _ => rfl) (λ sg e env hc => ?_)
 ·unfold corE at hc
  split at hc
  ·rename_i ef ea et pos q
   have := q0N q
   subst this
   simp only [Bool.and_eq_true, Bool.not_eq_true'] at hc
   obtain ⟨⟨⟨⟨h1, h2⟩, h3⟩, h4⟩, h5⟩ := hc
   obtain ⟨⟨p, rfl⟩, hg, hm⟩ := q6F g h1
   split at h5
   ·rename_i t
    simp only [Bool.and_eq_true, beq_iff_eq, List.contains_iff_mem] at h5
    obtain ⟨⟨⟨k1, k2⟩, k3⟩, k4⟩ := h5
    obtain ⟨p', rfl⟩ := q0p k1
    obtain ⟨T, hT⟩ := q3L (List.contains_iff_mem.mpr k4)
    obtain ⟨n1, n2⟩ := q2e t k4
    unfold evE at h
    exact z2e hT hg hm (g.glo t k2) (g.blt t k3) n1 n2 (λ z hz => ha.1 g h2 hz) h3 h
   ·rename_i t u
    split at h5
    ·rename_i e1 e2 q2
     obtain ⟨kk, tp, rfl⟩ := q2g q2
     simp only [Bool.and_eq_true, beq_iff_eq, List.contains_iff_mem] at h5
     obtain ⟨⟨⟨⟨k1, k2⟩, k3⟩, k4⟩, ⟨⟨l1, l2⟩, l3⟩, l4⟩ := h5
     obtain ⟨p1, rfl⟩ := q0p k1
     obtain ⟨p2, rfl⟩ := q0p l1
     obtain ⟨T, hT⟩ := q3L (List.contains_iff_mem.mpr k4)
     obtain ⟨U, hU⟩ := q3L (List.contains_iff_mem.mpr l4)
     obtain ⟨n1, n2⟩ := q2e t k4
     obtain ⟨m1, m2⟩ := q2e u l4
     unfold evE at h
     refine z0v (kf := λ d => isiD G d [t, u]) hT hU hg hm (g.glo t k2) (g.blt t k3) n1 n2 (g.glo u l2) (g.blt u l3) m1 m2 (λ d k e1 => ?_) (λ z hz => ha.1 g h2 hz) h3 h
     have px : (q1i.contains t && q1i.contains u) = true := by rw [Bool.and_eq_true]; exact ⟨List.contains_iff_mem.mpr k4, List.contains_iff_mem.mpr l4⟩
     unfold isiD at e1
     cases d <;> first
      | (simp only [px, if_true] at e1; cases e1; exact ⟨_, rfl, rfl⟩)
      | cases e1
    ·cases h5
   ·cases h5
  ·cases hc
 ·unfold corE at hc
  split at hc
  ·rename_i q; have := q0N q; subst this; exact q0i rfl env
  ·cases hc
theorem q1Y : ∀ {ms : List ME} {δ : List Sv} {l : List (DV × Cl)}, evEs G F ms δ = some (.ok l) -> l.length = ms.length
 | [], _, _, h => by unfold evEs at h; cases h; rfl
 | m :: ms, δ, l, h => by
  unfold evEs at h
  split at h
  ·cases h
  ·cases h
  ·split at h
   ·cases h
   ·cases h
   ·rename_i l' q
    cases h
    rw [List.length_cons, List.length_cons, q1Y q]
theorem q3q : ∀ {sg : Sg} {ms : List ME} {es : List Expr}, q0R sg ms es = true -> ms.length = es.length
 | _, [], [], _ => rfl
 | _, [], _ :: _, h => by unfold q0R at h; cases h
 | _, _ :: _, [], h => by unfold q0R at h; cases h
 | sg, m :: ms, e :: es, h => by
  unfold q0R at h
  simp only [Bool.and_eq_true] at h
  rw [List.length_cons, List.length_cons, q3q h.2]
theorem z5F (ha : SEs G F ms) : S1 G F (.rng ms) := by
 refine ⟨λ {sg X E e δ r} g hc h => ?_, λ {sg X E e δ r} g hc h => ?_, λ {sg X E e tg δ r} g hc _ h => ?_⟩
 ·unfold corE at hc; rw [Bool.false_and] at hc; cases hc
 ·unfold corE at hc; rw [Bool.false_and] at hc; cases hc
 ·unfold corE at hc
  rw [Bool.true_and] at hc
  split at hc
  ·rename_i ef es pos q
   have := q0N q
   subst this
   rw [Bool.and_eq_true, decide_eq_true_eq] at hc
   obtain ⟨hc, hle⟩ := hc
   rw [Bool.and_eq_true] at hc
   obtain ⟨⟨p, rfl⟩, hg, hm⟩ := q6F g hc.1
   have l1 := q3q hc.2
   have ns := q5f hc.2
   unfold evE at h
   cases es with
   | nil =>
    exfalso
    cases ms with
    | nil => unfold evEs at h; cases h
    | cons _ _ => cases l1
   | cons y ys =>
    rw [List.any_cons, Bool.or_eq_false_iff] at ns
    cases ys with
    | nil => exact q7r hg hm (λ z hz => ha g hc.2 hz) ns.1 h λ l hl => by rw [q1Y hl, l1]; rfl
    | cons z zs =>
     cases zs with
     | nil =>
      have ns2 := ns.2
      rw [List.any_cons, Bool.or_eq_false_iff] at ns2
      exact q7e hg hm (λ z hz => ha g hc.2 hz) ns.1 ns2.1 h λ l hl => by rw [q1Y hl, l1]; rfl
     | cons u us =>
      cases us with
      | nil =>
       have ns2 := ns.2
       rw [List.any_cons, Bool.or_eq_false_iff] at ns2
       have ns3 := ns2.2
       rw [List.any_cons, Bool.or_eq_false_iff] at ns3
       exact q7j hg hm (λ z hz => ha g hc.2 hz) ns.1 ns2.1 ns3.1 h λ l hl => by rw [q1Y hl, l1]; rfl
      | cons _ _ => simp at hle
  ·cases hc
theorem z2f {sg : Sg} {X : Cx} {E : St -> XK} {e : Expr} {δ : List Sv} {r : Re} {tg : Tg} {fr : List (Option Nat)} {cp : CParts} {tn : List Str} (ha : S1 G F a) (hb : S1 G F b) (g : Good sg G F X E) (hemp : cp.ifs = [])
  (h2 : corE sg true b cp.it = true) (hz : isZp b = true -> (q2K cp.tg).isSome = true) (h4 : q2N sg (q1x sg tn fr) fr cp.sc tg = true) (h5 : tgOk ⟨q1x sg tn fr, cp.sc.names, sg.fn, sg.bl, sg.cl, false, true⟩ tg cp.tg = true) (h6 : corE ⟨q1x sg tn fr, cp.sc.names, sg.fn, sg.bl, sg.cl, false, true⟩ false a cp.elt = true)
  (h : evE G F (.comp a tg b fr) δ = some r) : q1u X E δ cp.tg cp.it cp.ifs cp.elt cp.sc (q1x sg tn fr) fr tg r := by
 obtain ⟨S, nd, sl⟩ := q1B g h4
 rw [hemp]
 unfold evE at h
 exact q4e S g.calm nd sl (λ z hz' => hb.2.2 g h2 hz hz') (λ C cells s₂ H₂ fp => q7J (q1F g h4 C cells s₂ H₂ fp) h5) (λ δ' r' hr C cells s₂ H₂ fp => ha.1 (q1F g h4 C cells s₂ H₂ fp) h6 hr) h
theorem z0j {sg : Sg} {X : Cx} {E : St -> XK} {e cd : Expr} {δ : List Sv} {r : Re} {tg : Tg} {fr : List (Option Nat)} {cp : CParts} {tn : List Str} (ha : S1 G F a) (hb : S1 G F b) (hcc : S1 G F c) (g : Good sg G F X E) (hemp : cp.ifs = [cd])
  (h2 : corE sg true b cp.it = true) (hz : isZp b = true -> (q2K cp.tg).isSome = true) (h4 : q2N sg (q1x sg tn fr) fr cp.sc tg = true) (h5 : tgOk ⟨q1x sg tn fr, cp.sc.names, sg.fn, sg.bl, sg.cl, false, true⟩ tg cp.tg = true) (h6 : corE ⟨q1x sg tn fr, cp.sc.names, sg.fn, sg.bl, sg.cl, false, true⟩ false a cp.elt = true)
  (h7 : corE ⟨q1x sg tn fr, cp.sc.names, sg.fn, sg.bl, sg.cl, false, true⟩ false c cd = true) (h : evE G F (.compi a tg b c fr) δ = some r) : q1u X E δ cp.tg cp.it cp.ifs cp.elt cp.sc (q1x sg tn fr) fr tg r := by
 obtain ⟨S, nd, sl⟩ := q1B g h4
 rw [hemp]
 unfold evE at h
 exact q3Y S g.calm nd sl (λ z hz' => hb.2.2 g h2 hz hz') (λ C cells s₂ H₂ fp => q7J (q1F g h4 C cells s₂ H₂ fp) h5) (λ δ' r' hr C cells s₂ H₂ fp => ha.1 (q1F g h4 C cells s₂ H₂ fp) h6 hr)
  (λ δ' r' hr C cells s₂ H₂ fp => hcc.2.1 (q1F g h4 C cells s₂ H₂ fp) h7 hr) h
noncomputable def q3T (G : Gs) (F : Nat -> List DV -> Option Ou) (m : ME) : Prop := ∀ {sg : Sg} {X : Cx} {E : St -> XK} {e : Expr} {δ : List Sv} {r : Re}, Good sg G F X E -> corE sg false m e = true -> evE G F m δ = some r ->
 ∃ (cp : CParts) (N' : List Str) (fr : List (Option Nat)) (tg : Tg) (p : Pos), e = .ListComp cp.elt [⟨cp.tg, cp.it, cp.ifs, 0⟩] cp.sc p /\ CompScope X.N N' cp.sc X.env.scope fr /\ q1u X E δ cp.tg cp.it cp.ifs cp.elt cp.sc N' fr tg r /\
  (∀ C cells s₂ H₂ fp, PG (q0u X cp.sc N' C cells s₂ H₂ fp) cp.tg (gT X.K tg)) /\ q2B cp.it = false
theorem q3T.s1 {m : ME} (h : q3T G F m) (hw : ∀ sg e, corE sg true m e = corE sg false m e) (hl : ∀ sg e, corE sg false m e = true -> (q4i e).isSome = true) : S1 G F m := by
 refine .of (λ {sg X E e δ r} g hc q => ?_) hw (λ sg e env hc => ?_)
 ·obtain ⟨cp, N', fr, tg, p, rfl, S, P, hG, hs⟩ := h g hc q
  exact P.pe S g.calm hG hs
 ·have := hl sg e hc
  cases z : q4i e with
  | none => rw [z] at this; cases this
  | some cp => obtain ⟨p, rfl⟩ := q3J z; exact q0i rfl env
theorem z0P {tg : Tg} {fr : List (Option Nat)} (ha : S1 G F a) (hb : S1 G F b) : q3T G F (.comp a tg b fr) := by
 intro sg X E e δ r g hc h
 unfold corE at hc
 split at hc
 ·rename_i cp q
  obtain ⟨p, rfl⟩ := q3J q
  simp only [Bool.and_eq_true, Bool.not_eq_true', Bool.or_eq_true] at hc
  obtain ⟨⟨⟨h1, h2, h3⟩, h4⟩, h5⟩ := hc
  split at h5
  ·rename_i tn qt
   simp only [Bool.and_eq_true] at h5
   refine ⟨cp, _, fr, tg, p, rfl, (q1B g h5.1.1).1, z2f (e := .ListComp cp.elt [⟨cp.tg, cp.it, cp.ifs, 0⟩] cp.sc p) ha hb g (List.isEmpty_iff.mp h1) h2 (λ z => ?_) h5.1.1 h5.1.2 h5.2 h, λ C cells s₂ H₂ fp => q7J (q1F g h5.1.1 C cells s₂ H₂ fp) h5.1.2, h4⟩
   rcases h3 with w | w
   ·rw [z] at w; cases w
   ·exact w
  ·cases h5
 ·cases hc
theorem q8u {tg : Tg} {fr : List (Option Nat)} (ha : S1 G F a) (hb : S1 G F b) (hcc : S1 G F c) : q3T G F (.compi a tg b c fr) := by
 intro sg X E e δ r g hc h
 unfold corE at hc
 split at hc
 ·rename_i cp q
  obtain ⟨p, rfl⟩ := q3J q
  simp only [Bool.and_eq_true, Bool.not_eq_true', Bool.or_eq_true] at hc
  obtain ⟨⟨⟨h2, h3⟩, h4⟩, h5⟩ := hc
  split at h5
  ·rename_i tn ec qt qi
   simp only [Bool.and_eq_true] at h5
   refine ⟨cp, _, fr, tg, p, rfl, (q1B g h5.1.1.1).1, z0j (e := .ListComp cp.elt [⟨cp.tg, cp.it, cp.ifs, 0⟩] cp.sc p) ha hb hcc g qi h2 (λ z => ?_) h5.1.1.1 h5.1.1.2 h5.1.2 h5.2 h, λ C cells s₂ H₂ fp => q7J (q1F g h5.1.1.1 C cells s₂ H₂ fp) h5.1.1.2, h4⟩
   rcases h3 with w | w
   ·rw [z] at w; cases w
   ·exact w
  ·cases h5
 ·cases hc
theorem z2U {tg : Tg} {fr : List (Option Nat)} (ha : S1 G F a) (hb : S1 G F b) : S1 G F (.comp a tg b fr) := q3T.s1 (λ {sg X E e δ r} => z0P ha hb) (λ _ _ => rfl) λ sg e hc => by
 unfold corE at hc
 split at hc
 ·rename_i q; rw [q]; rfl
 ·cases hc
theorem z1x {tg : Tg} {fr : List (Option Nat)} (ha : S1 G F a) (hb : S1 G F b) (hcc : S1 G F c) : S1 G F (.compi a tg b c fr) := q3T.s1 (λ {sg X E e δ r} => q8u ha hb hcc) (λ _ _ => rfl) λ sg e hc => by
 unfold corE at hc
 split at hc
 ·rename_i q; rw [q]; rfl
 ·cases hc
theorem z5f : SEs G F [] := λ {sg X E es δ r} g hc h => by
 cases es with
 | nil => unfold evEs at h; cases h; exact z0t
 | cons _ _ => unfold q0R at hc; cases hc
theorem z3O (ha : S1 G F a) (hb : SEs G F ms) : SEs G F (a :: ms) := λ {sg X E es δ r} g hc h => by
 cases es with
 | nil => unfold q0R at hc; cases hc
 | cons e es =>
  unfold q0R at hc
  simp only [Bool.and_eq_true, Bool.not_eq_true'] at hc
  unfold evEs at h
  exact q9b hc.1.2 (λ z hz => ha.1 g hc.1.1 hz) (λ z hz => hb g hc.2 hz) h
theorem z2a : SAnd G F [] := λ {sg X E es δ pos} g hc => ⟨λ r h => (by unfold q2T at h; cases h), λ r h => (by unfold q2T at h; cases h)⟩
theorem z3C : SOr G F [] := λ {sg X E es δ pos} g hc => ⟨λ r h => (by unfold evOr at h; cases h), λ r h => (by unfold evOr at h; cases h)⟩
theorem z0c (ha : S1 G F a) (hb : SAnd G F ms) : SAnd G F (a :: ms) := λ {sg X E es δ pos} g hc => by
 cases es with
 | nil => unfold q0R at hc; cases hc
 | cons e es =>
  unfold q0R at hc
  simp only [Bool.and_eq_true, Bool.not_eq_true'] at hc
  cases ms with
  | nil =>
   cases es with
   | nil =>
    refine ⟨λ r h => ?_, λ r h => ?_⟩
    ·unfold q2T at h; exact z0H (ha.1 g hc.1.1 h)
    ·unfold q2T at h; exact z1U (ha.2.1 g hc.1.1 h)
   | cons _ _ => have := hc.2; unfold q0R at this; cases this
  | cons m ms =>
   cases es with
   | nil => have := hc.2; unfold q0R at this; cases this
   | cons e' es =>
    have B := @hb sg X E (e' :: es) δ pos g hc.2
    refine ⟨λ r h => ?_, λ r h => ?_⟩
    ·unfold q2T at h; exact z2o (λ z hz => ha.1 g hc.1.1 hz) (λ z hz => B.1 z hz) h
    ·unfold q2T at h; exact q9O (λ z hz => ha.2.1 g hc.1.1 hz) (λ z hz => B.2 z hz) h
theorem z1S (ha : S1 G F a) (hb : SOr G F ms) : SOr G F (a :: ms) := λ {sg X E es δ pos} g hc => by
 cases es with
 | nil => unfold q0R at hc; cases hc
 | cons e es =>
  unfold q0R at hc
  simp only [Bool.and_eq_true, Bool.not_eq_true'] at hc
  cases ms with
  | nil =>
   cases es with
   | nil =>
    refine ⟨λ r h => ?_, λ r h => ?_⟩
    ·unfold evOr at h; exact z0H (ha.1 g hc.1.1 h)
    ·unfold evOr at h; exact z4w (ha.2.1 g hc.1.1 h)
   | cons _ _ => have := hc.2; unfold q0R at this; cases this
  | cons m ms =>
   cases es with
   | nil => have := hc.2; unfold q0R at this; cases this
   | cons e' es =>
    have B := @hb sg X E (e' :: es) δ pos g hc.2
    refine ⟨λ r h => ?_, λ r h => ?_⟩
    ·unfold evOr at h; exact z3e (λ z hz => ha.1 g hc.1.1 hz) (λ z hz => B.1 z hz) h
    ·unfold evOr at h; exact z2q (λ z hz => ha.2.1 g hc.1.1 hz) (λ z hz => B.2 z hz) h
theorem z5j (ha : SAnd G F ms) : S1 G F (.and ms) := by
 refine .of2 (λ {sg X E e δ r} g hc h => ?_) (λ {sg X E e δ r} g hc h => ?_) (λ _ _ => rfl)
 ·unfold corE at hc
  split at hc
  ·rename_i o es q
   obtain ⟨p, rfl⟩ := q2X q
   simp only [Bool.and_eq_true, beq_iff_eq] at hc
   obtain ⟨h1, h2⟩ := hc
   subst h1
   unfold evE at h
   exact (ha g h2).1 r h
  ·cases hc
 ·unfold corE at hc
  split at hc
  ·rename_i o es q
   obtain ⟨p, rfl⟩ := q2X q
   simp only [Bool.and_eq_true, beq_iff_eq] at hc
   obtain ⟨h1, h2⟩ := hc
   subst h1
   unfold evE at h
   exact ((ha g h2).2 r h).pt
  ·cases hc
theorem s_or (ha : SOr G F ms) : S1 G F (.or ms) := by
 refine .of2 (λ {sg X E e δ r} g hc h => ?_) (λ {sg X E e δ r} g hc h => ?_) (λ _ _ => rfl)
 ·unfold corE at hc
  split at hc
  ·rename_i o es q
   obtain ⟨p, rfl⟩ := q2X q
   simp only [Bool.and_eq_true, beq_iff_eq] at hc
   obtain ⟨h1, h2⟩ := hc
   subst h1
   unfold evE at h
   exact (ha g h2).1 r h
  ·cases hc
 ·unfold corE at hc
  split at hc
  ·rename_i o es q
   obtain ⟨p, rfl⟩ := q2X q
   simp only [Bool.and_eq_true, beq_iff_eq] at hc
   obtain ⟨h1, h2⟩ := hc
   subst h1
   unfold evE at h
   exact ((ha g h2).2 r h).pt
  ·cases hc
end
section
variable {G : Gs} {F : Nat -> List DV -> Option Ou}
mutual
theorem snd : ∀ m : ME, S1 G F m
 | .var _ => z4Z
 | .int _ => z5q
 | .bl _ => s_bl
 | .str _ => z5V
 | .non => z5S
 | .glb _ => z5a
 | .bin _ a b => z5H (snd a) (snd b)
 | .neg a => z5X (snd a)
 | .not a => z5e (snd a)
 | .cmp _ a b => z5M (snd a) (snd b)
 | .chain _ _ a b c => z1Q (snd a) (snd b) (snd c)
 | .and es => z5j (z0J es)
 | .or es => s_or (z3c es)
 | .ite c a b => z4Q (snd c) (snd a) (snd b)
 | .lst es => z5i (sndL es)
 | .tup es => z5s (sndL es)
 | .ix a b => s_ix (snd a) (snd b)
 | .sl a b c => s_sl (snd a) (snd b) (snd c)
 | .slf a b => z4R (snd a) (snd b)
 | .slt a b => z5c (snd a) (snd b)
 | .call _ es => z4C (sndL es)
 | .bi _ es => s_bi (sndL es)
 | .isi a _ => z5P (snd a)
 | .isx a _ => z5Q (snd a)
 | .comp a _ b _ => z2U (snd a) (snd b)
 | .compi a _ b c _ => z1x (snd a) (snd b) (snd c)
 | .rng es => z5F (sndL es)
theorem sndL : ∀ ms : List ME, SEs G F ms
 | [] => z5f
 | a :: ms => z3O (snd a) (sndL ms)
theorem z0J : ∀ ms : List ME, SAnd G F ms
 | [] => z2a
 | a :: ms => z0c (snd a) (z0J ms)
theorem z3c : ∀ ms : List ME, SOr G F ms
 | [] => z3C
 | a :: ms => z1S (snd a) (z3c ms)
end
end
end L2
end
section
namespace L2
open PySem PySem.Spec PyProof.Rows
section
variable (G : Gs) (F : Nat -> List DV -> Option Ou) (fu : Nat)
noncomputable def SS (m : MS) : Prop := ∀ {sg : Sg} {X : Cx} {E : St -> XK} {st : Stmt} {δ : List Sv} {o : Out}, Good sg G F X E -> corS sg m st = true -> evS G F fu m δ = some o -> PS X st (dS X.D E δ o)
noncomputable def SSs (ms : List MS) : Prop := ∀ {sg : Sg} {X : Cx} {E : St -> XK} {sts : List Stmt} {δ : List Sv} {o : Out}, Good sg G F X E -> q2C sg ms sts = true -> evSs G F fu ms δ = some o -> PSs X sts (dS X.D E δ o)
end
section
variable {G : Gs} {F : Nat -> List DV -> Option Ou} {fu : Nat} {e k : ME} {i : Nat}
theorem z2R : ∀ {e : ME}, q7I e = true -> q3T G F e
 | .comp a _ b _, _ => z0P (snd a) (snd b)
 | .compi a _ b c _, _ => q8u (snd a) (snd b) (snd c)
theorem z5o {own : Bool} : SS G F fu (.set i own e) := by
 intro sg X E st δ o g hc h
 unfold corS at hc
 split at hc
 ·rename_i t v pos
  split at hc
  ·rename_i x pt
   simp only [Bool.and_eq_true, beq_iff_eq, Bool.or_eq_true, Bool.not_eq_true'] at hc
   obtain ⟨⟨⟨h1, h2⟩, h3⟩, h4⟩ := hc
   have l := g.loc x h2
   have hN : X.N[i]? = some x := by rw [g.N]; exact h1
   unfold evS at h
   cases hv : q5t v with
   | false => exact q7G g.nd hN l.1 l.2 (λ z hz => (snd e).1 g h3 hz) (q3m hv) h
   | true =>
    rcases h4 with h4 | h5
    ·rw [hv] at h4; cases h4
    ·cases hr : evE G F e δ with
     | none => rw [hr] at h; cases h
     | some r =>
      obtain ⟨cp, N', fr, tg, p, rfl, S, P, hG, hs⟩ := z2R h5 g h3 hr
      cases hb : (X.env.blockKind == .function && X.env.kindOf x == some .local && pt.line == (Expr.ListComp cp.elt [⟨cp.tg, cp.it, cp.ifs, 0⟩] cp.sc p).pos.line && !(cp.sc.names.any λ (n, k) => n == x && (k == .local || k == .cell))) with
      | false =>
       have hsw : swapsWith (.ListComp cp.elt [⟨cp.tg, cp.it, cp.ifs, 0⟩] cp.sc p) (some (.Name x pt)) pos.line X.env = pure false := by
        show (pure (X.env.blockKind == .function && X.env.kindOf x == some .local && pt.line == (Expr.ListComp cp.elt [⟨cp.tg, cp.it, cp.ifs, 0⟩] cp.sc p).pos.line && !(cp.sc.names.any λ (n, k) => n == x && (k == .local || k == .cell))) : Sem Bool) = pure false
        rw [hb]
       exact q7G g.nd hN l.1 l.2 (λ z hz => (snd e).1 g h3 hz) hsw h
      | true =>
       have hsw : swapsWith (.ListComp cp.elt [⟨cp.tg, cp.it, cp.ifs, 0⟩] cp.sc p) (some (.Name x pt)) pos.line X.env = pure true := by
        show (pure (X.env.blockKind == .function && X.env.kindOf x == some .local && pt.line == (Expr.ListComp cp.elt [⟨cp.tg, cp.it, cp.ifs, 0⟩] cp.sc p).pos.line && !(cp.sc.names.any λ (n, k) => n == x && (k == .local || k == .cell))) : Sem Bool) = pure true
        rw [hb]
       rw [hr] at h
       have h4 : X.env.kindOf x = some .local := by
        simp only [Bool.and_eq_true, beq_iff_eq] at hb
        exact hb.1.1.2
       exact q6g S g.calm g.nd hN h4 P hG hs hsw h
  ·cases hc
 ·cases hc
theorem z5R : SS G F fu (.app i e) := by
 intro sg X E st δ o g hc h
 unfold corS at hc
 split at hc
 ·rename_i v pos
  split at hc
  ·rename_i ef ea cpos q
   have := q0N q
   subst this
   split at hc
   ·rename_i ob n apos q2
    have := q5q q2
    subst this
    simp only [Bool.and_eq_true, Bool.not_eq_true'] at hc
    obtain ⟨⟨⟨⟨h1, h2⟩, h3⟩, h4⟩, h5⟩ := hc
    split at h2
    ·rename_i x q3
     obtain ⟨np, rfl⟩ := q0p q3
     obtain ⟨s1, s2, s3, s4⟩ := q4Q g h2
     have hn : n = "append" := beq_iff_eq.mp h1
     subst hn
     unfold evS at h
     exact q7k (q5D s1 s2 s3 s4) (λ z hz => (snd e).1 g h3 hz) h4 h5 h
    ·cases h2
   ·cases hc
  ·cases hc
 ·cases hc
theorem z5E : SS G F fu (.ext i e) := by
 intro sg X E st δ o g hc h
 unfold corS at hc
 split at hc
 ·rename_i v pos
  split at hc
  ·rename_i ef ea cpos q
   have := q0N q
   subst this
   split at hc
   ·rename_i ob n apos q2
    have := q5q q2
    subst this
    simp only [Bool.and_eq_true, Bool.not_eq_true'] at hc
    obtain ⟨⟨⟨⟨h1, h2⟩, h3⟩, h4⟩, h5⟩ := hc
    split at h2
    ·rename_i x q3
     obtain ⟨np, rfl⟩ := q0p q3
     obtain ⟨s1, s2, s3, s4⟩ := q4Q g h2
     have hn : n = "extend" := beq_iff_eq.mp h1
     subst hn
     unfold evS at h
     exact q7z (q5D s1 s2 s3 s4) (λ z hz => (snd e).1 g h3 hz) h4 h5 h
    ·cases h2
   ·cases hc
  ·cases hc
 ·cases hc
theorem z5w {is : List Nat} {es : List ME} : SS G F fu (.par is es) := by
 intro sg X E st δ o g hc h
 unfold corS at hc
 split at hc
 ·rename_i t v pos
  split at hc
  ·rename_i x y a b i j q1 q2
   obtain ⟨kt, pt, rfl⟩ := q2g q1
   obtain ⟨k2, pt2, rfl⟩ := q2g q2
   rw [Bool.and_eq_true] at hc
   obtain ⟨h1, h2⟩ := hc
   unfold parB at h1
   split at h1
   ·rename_i x' y' q3 q4
    obtain ⟨px, rfl⟩ := q0p q3
    obtain ⟨py, rfl⟩ := q0p q4
    simp only [Bool.and_eq_true, Bool.not_eq_true', beq_iff_eq, bne_iff_ne, ne_eq] at h1
    obtain ⟨⟨⟨⟨⟨⟨⟨⟨⟨a1, a2⟩, a3⟩, a4⟩, a5⟩, a6⟩, a7⟩, a8⟩, a9⟩, a10⟩ := h1
    unfold evS at h
    exact z1g (is := []) g.calm g.nd (by rw [g.N]; exact a2) (by rw [g.N]; exact a3) a1 (g.lcl _ a4) (g.lcl _ a5) (beq_iff_eq.mpr a6) a7 a8 a9 a10 (λ z hz => sndL es g h2 hz) h
   ·cases h1
  ·cases hc
 ·cases hc
theorem z3v : SS G F fu (.seti i k e) := by
 intro sg X E st δ o g hc h
 unfold corS at hc
 split at hc
 ·rename_i t v pos
  split at hc
  ·rename_i ob ek q
   obtain ⟨sp, rfl⟩ := q1A q
   simp only [Bool.and_eq_true, Bool.not_eq_true'] at hc
   obtain ⟨⟨⟨h2, h3⟩, h4⟩, h5⟩ := hc
   split at h2
   ·rename_i x q3
    obtain ⟨np, rfl⟩ := q0p q3
    obtain ⟨s1, s2, s3, s4⟩ := q4Q g h2
    unfold evS at h
    exact q8P (q5D s1 s2 s3 s4) (λ z hz => (snd e).1 g h5 hz) (λ z hz => (snd k).1 g h3 hz) h4 h
   ·cases h2
  ·cases hc
 ·cases hc
theorem z5U : SS G F fu (.exp e) := by
 intro sg X E st δ o g hc h
 unfold corS at hc
 split at hc
 ·simp only [Bool.and_eq_true, Bool.not_eq_true'] at hc
  unfold evS at h
  exact z1E (λ z hz => (snd e).1 g hc.1 hz) hc.2 h
 ·cases hc
theorem z5L : SS G F fu (.ret e) := by
 intro sg X E st δ o g hc h
 unfold corS at hc
 split at hc
 ·unfold evS at h
  exact z1d (λ z hz => (snd e).1 g hc hz) h
 ·cases hc
theorem z4f {es : List ME} : SS G F fu (.ret0 es) := by
 intro sg X E st δ o g hc h
 unfold corS at hc
 split at hc
 ·rename_i v pos
  split at hc
  ·rename_i es' q
   obtain ⟨kk, tp, rfl⟩ := q2g q
   unfold evS at h
   exact z0u (λ z hz => sndL es g hc hz) h
  ·cases hc
 ·cases hc
theorem z5K {c : Str} : SS G F fu (.rse c e) := by
 intro sg X E st δ o g hc h
 unfold corS at hc
 split at hc
 ·rename_i v pos
  split at hc
  ·rename_i ef ea cpos q
   have := q0N q
   subst this
   simp only [Bool.and_eq_true, Bool.not_eq_true', beq_iff_eq, bne_iff_ne, ne_eq] at hc
   obtain ⟨⟨⟨⟨⟨h0, h1⟩, h2⟩, h3⟩, h4⟩, h5⟩ := hc
   obtain ⟨np, rfl⟩ := q0p h1
   unfold evS at h
   exact q7O g.xf g.calm (g.glo c h2) (beq_eq_false_iff_ne.mpr h3) (g.st h0).2.2.2 (λ z hz => (snd e).1 g h4 hz) h5 h
  ·cases hc
 ·cases hc
theorem z5g {body : List MS} {c : Str} {ie ic : Nat} (hb : SSs G F fu body) : SS G F fu (.tryc body c ie ic) := by
 intro sg X E st δ o g hc h
 unfold corS at hc
 split at hc
 ·rename_i b hd pos
  cases hd with
  | ExceptHandler t n bd hp =>
  simp only [Bool.and_eq_true, q5M] at hc
  obtain ⟨⟨h0, h1⟩, h2⟩ := hc
  split at h2
  ·rename_i t' n' t2 v2 ap q
   simp only [Option.some.injEq, Prod.mk.injEq] at q
   obtain ⟨rfl, rfl, rfl⟩ := q
   simp only [Bool.and_eq_true, beq_iff_eq, bne_iff_ne, ne_eq, List.contains_iff_mem] at h2
   obtain ⟨⟨⟨⟨⟨⟨⟨⟨⟨⟨k1, k2⟩, k3⟩, k4⟩, k5⟩, k6⟩, k7⟩, k8⟩, k9⟩, k10⟩, k11⟩ := h2
   split at k10
   ·rename_i x q2
    simp only [Bool.and_eq_true, beq_iff_eq] at k10
    obtain ⟨tp, rfl⟩ := q0p q2
    obtain ⟨vp, rfl⟩ := q0p k9
    obtain ⟨np, rfl⟩ := q0p k1
    have l := g.loc x k10.2
    obtain ⟨s1, s2, s3, _⟩ := g.st h0
    unfold evS at h
    exact z1j g.xf s1 s2 s3 (g.glo c k2) k4 (beq_eq_false_iff_ne.mpr k3) g.nd (by rw [g.N]; exact k5) (g.lcl _ k6) (beq_eq_false_iff_ne.mpr k7) (beq_eq_false_iff_ne.mpr k8) (by rw [g.N]; exact k10.1) l.1 l.2
     (λ pins E' q hq => hb (z0o g pins E') h1 hq) h
   ·cases k10
  ·cases h2
 ·cases hc
theorem z5d : SS G F fu (.frz i) := by
 intro sg X E st δ o g hc h
 unfold corS at hc
 cases hc
variable {a b body : List MS} {c : ME} {tg : Tg}
theorem z5Y (ha : SSs G F fu a) (hb : SSs G F fu b) : SS G F fu (.iff c a b) := by
 intro sg X E st δ o g hc h
 unfold corS at hc
 split at hc
 ·simp only [Bool.and_eq_true] at hc
  unfold evS at h
  exact z3q (λ z hz => (snd c).2.1 g hc.1.1 hz) (λ z hz => ha g hc.1.2 hz) (λ z hz => hb g hc.2 hz) h
 ·cases hc
theorem t_fo (hb : SSs G F fu body) : SS G F fu (.fo tg e body) := by
 intro sg X E st δ o g hc h
 unfold corS at hc
 split at hc
 ·simp only [Bool.and_eq_true, Bool.not_eq_true', Bool.or_eq_true] at hc
  obtain ⟨⟨⟨⟨h0, h1⟩, h2, h3⟩, h4⟩, h5⟩ := hc
  unfold evS at h
  exact z1M (g.own h0) g.calm (λ z hz => (snd e).2.2 g h2 (λ w => by
   rcases h3 with q | q
   ·rw [w] at q; cases q
   ·exact q) hz) (q7J g h1) (λ δ' o' ho => hb g h5 ho) h4 h
 ·cases hc
theorem t_wh (hb : SSs G F fu body) : SS G F fu (.wh c body) := by
 intro sg X E st δ o g hc h
 unfold corS at hc
 split at hc
 ·simp only [Bool.and_eq_true] at hc
  unfold evS at h
  exact q8a (g.own hc.1.1) (λ δ' r hr => (snd c).2.1 g hc.1.2 hr) (λ δ' o' ho => hb g hc.2 ho) h
 ·cases hc
theorem z3A : SSs G F fu [] := by
 intro sg X E sts δ o g hc h
 cases sts with
 | nil => unfold evSs at h; cases h; exact z1n
 | cons a b => unfold q2C at hc; cases hc
theorem z3w {ms : List MS} (hb : SSs G F fu ms) : SSs G F fu (.frz i :: ms) := by
 intro sg X E sts δ o g hc h
 have hc' : q2C sg ms sts = true := by unfold q2C at hc; exact hc
 unfold evSs at h
 have key : evS G F fu (.frz i) δ = (match δ[i]? with | some (.own d) => some (.nx (δ.set i (.val d))) | _ => some (.nx δ)) := by unfold evS; rfl
 rw [key] at h
 cases q : δ[i]? with
 | none => rw [q] at h; exact hb g hc' h
 | some sv =>
  rw [q] at h
  cases sv with
  | own d => exact q7t q (hb g hc' h)
  | no => exact hb g hc' h
  | val d => exact hb g hc' h
  | ot d => exact hb g hc' h
  | o2 d => exact hb g hc' h
theorem q1o {m : MS} {ms : List MS} (ha : SS G F fu m) (hb : SSs G F fu ms) (hm : ∀ i, m ≠ .frz i) : SSs G F fu (m :: ms) := by
 intro sg X E sts δ o g hc h
 cases sts with
 | nil =>
  exfalso
  cases m <;> first | exact hm _ rfl | (unfold q2C at hc; cases hc)
 | cons st sts =>
  have hc' : corS sg m st = true /\ q2C sg ms sts = true := by
   cases m <;> first | exact absurd rfl (hm _) | (unfold q2C at hc; rw [Bool.and_eq_true] at hc; exact hc)
  unfold evSs at h
  split at h
  ·rename_i δ' q
   exact q9V (ha g hc'.1 q) (hb g hc'.2 h)
  ·rename_i hne
   have A := ha g hc'.1 h
   cases o with
   | nx δ' => exact absurd h (hne δ')
   | rt d fr => exact z4I A
   | rtt d => exact z2t A
   | ex c δ' => exact z4r A
end
section
variable {G : Gs} {F : Nat -> List DV -> Option Ou} {fu : Nat}
mutual
theorem sndS : ∀ m : MS, SS G F fu m
 | .set _ _ _ => z5o
 | .par _ _ => z5w
 | .app _ _ => z5R
 | .ext _ _ => z5E
 | .seti _ _ _ => z3v
 | .exp _ => z5U
 | .ret _ => z5L
 | .ret0 _ => z4f
 | .iff _ a b => z5Y (q1W a) (q1W b)
 | .fo _ _ body => t_fo (q1W body)
 | .wh _ body => t_wh (q1W body)
 | .rse _ _ => z5K
 | .tryc body _ _ _ => z5g (q1W body)
 | .frz _ => z5d
theorem q1W : ∀ ms : List MS, SSs G F fu ms
 | [] => z3A
 | .frz _ :: ms => z3w (q1W ms)
 | .set i o e :: ms => q1o (sndS (.set i o e)) (q1W ms) (by intro i z; cases z)
 | .par i o :: ms => q1o (sndS (.par i o)) (q1W ms) (by intro i z; cases z)
 | .app i o :: ms => q1o (sndS (.app i o)) (q1W ms) (by intro i z; cases z)
 | .ext i o :: ms => q1o (sndS (.ext i o)) (q1W ms) (by intro i z; cases z)
 | .seti i k o :: ms => q1o (sndS (.seti i k o)) (q1W ms) (by intro i z; cases z)
 | .exp e :: ms => q1o (sndS (.exp e)) (q1W ms) (by intro i z; cases z)
 | .ret e :: ms => q1o (sndS (.ret e)) (q1W ms) (by intro i z; cases z)
 | .ret0 e :: ms => q1o (sndS (.ret0 e)) (q1W ms) (by intro i z; cases z)
 | .iff c a b :: ms => q1o (sndS (.iff c a b)) (q1W ms) (by intro i z; cases z)
 | .fo t i b :: ms => q1o (sndS (.fo t i b)) (q1W ms) (by intro i z; cases z)
 | .wh c b :: ms => q1o (sndS (.wh c b)) (q1W ms) (by intro i z; cases z)
 | .rse c e :: ms => q1o (sndS (.rse c e)) (q1W ms) (by intro i z; cases z)
 | .tryc a b c d :: ms => q1o (sndS (.tryc a b c d)) (q1W ms) (by intro i z; cases z)
end
end
end L2
end
section
namespace L2
open PySem PySem.Spec PyProof.Rows
theorem RSt.start {D : Dm} {H : Hp} {N : List Str} {ds : List DV} {vs : List V} {O : List Addr} {n : Nat} (hn : n = N.length) (r : RepL D (L2.wo O H) ds vs) (ho : ∀ a ∈ O, H a ≠ none) : RSt D H (L2.start N vs) (q0D n ds) O [] := by
 subst hn
 have ino : ∀ (i : Nat) ds', (q0D N.length ds)[i]? ≠ some (.own ds') := λ i ds' h => by
  unfold q0D at h
  by_cases hi : i < (ds.map Sv.val).length
  ·rw [List.getElem?_append_left hi, List.getElem?_map] at h
   cases q : ds[i]? with
   | none => rw [q] at h; cases h
   | some d => rw [q] at h; cases h
  ·rw [List.getElem?_append_right (by omega), List.getElem?_replicate] at h
   split at h <;> cases h
 have iot : ∀ (i : Nat) ds', (q0D N.length ds)[i]? ≠ some (.ot ds') := λ i ds' h => by
  unfold q0D at h
  by_cases hi : i < (ds.map Sv.val).length
  ·rw [List.getElem?_append_left hi, List.getElem?_map] at h
   cases q : ds[i]? with
   | none => rw [q] at h; cases h
   | some d => rw [q] at h; cases h
  ·rw [List.getElem?_append_right (by omega), List.getElem?_replicate] at h
   split at h <;> cases h
 have io2 : ∀ (i : Nat) ds', (q0D N.length ds)[i]? ≠ some (.o2 ds') := λ i ds' h => by
  unfold q0D at h
  by_cases hi : i < (ds.map Sv.val).length
  ·rw [List.getElem?_append_left hi, List.getElem?_map] at h
   cases q : ds[i]? with
   | none => rw [q] at h; cases h
   | some d => rw [q] at h; cases h
  ·rw [List.getElem?_append_right (by omega), List.getElem?_replicate] at h
   split at h <;> cases h
 refine ⟨λ i d h => ?_, λ i ds' h => absurd h (ino i ds'), λ i j a d1 d2 h => absurd h (ino i d1), λ i d h => absurd h (iot i d), λ i d h => absurd h (io2 i d), ?_, ⟨λ a ha => ho a (by simpa using ha), Same.refl _, λ a ha => (nomatch ha), λ a ha => (nomatch ha)⟩⟩
 ·unfold q0D at h
  by_cases hi : i < (ds.map Sv.val).length
  ·rw [List.getElem?_append_left hi, List.getElem?_map] at h
   cases q : ds[i]? with
   | none => rw [q] at h; cases h
   | some d' =>
    rw [q] at h
    cases h
    obtain ⟨v, e1, e2⟩ := r.get q
    refine ⟨v, ?_, by rw [List.append_nil]; exact e2⟩
    unfold L2.start
    rw [List.getElem?_append_left (by rw [List.length_map]; exact (List.getElem?_eq_some_iff.mp e1).1), List.getElem?_map, e1]
    rfl
  ·rw [List.getElem?_append_right (by omega), List.getElem?_replicate] at h
   split at h <;> cases h
 ·unfold L2.start q0D
  rw [List.length_append, List.length_append, List.length_map, List.length_map, List.length_replicate, List.length_replicate, r.length]
structure FunD (K : PySem.W.Frag) (x qual : Str) (st : Stmt) (f : Addr) (fd : FuncData) : Prop where
 ex : ∃ (oc : Value) (od : Option Addr) (dV kV doc pm : Value) (an : Option Addr) (cdv ct : Value) (osl : Array (Option Value)),
  fd = PySem.W.fnOf x qual (q0o st) (q0m st) (q0d st) dV kV doc pm an cdv ct /\ K.lookup f = some ⟨oc, od, .func fd, osl⟩ /\ PySem.W.codeIn K cdv qual = true
theorem FunD.okX {P : Program} {w : World} {K : PySem.W.Frag} {mg : Str -> Option Value} {base : Heap} {x qual : Str} {st : Stmt} {f : Addr} {fd : FuncData} {N ps : List Str} {k : Nat} {sp : Sp} (F : FunD K x qual st f fd) (S : FnScope N ps (q0d st)) (len : ∀ vs H Q E, sp vs H Q E -> vs.length = ps.length)
  (hbody : ∀ (cdv : Value) (A : Around) (outer : List Env) (s : Shared) (H : Hp) (vs : List V) (Q : VK) (E : XK), Room k (A.deeper (envOfC qual (q0d st) s.heap.objs.size f cdv)) -> sp vs H Q E ->
   ∃ t, PSs (cxD P w K mg base N qual (q0d st) f cdv A outer s H E) (q0m st) t /\ t { nx := λ _ H' => Q .non H', rt := Q } (start N vs) H) : FnOk P w K mg base (CXx P w base) (k + 1) f fd ps sp := by
 obtain ⟨oc, od, dV, kV, doc, pm, an, cdv, ct, osl, rfl, lk, hcd⟩ := F.ex
 exact z5z lk hcd S len λ A outer s H vs Q E hr hsp => hbody cdv A outer s H vs Q E hr hsp
noncomputable def DfOk (G : Gs) (T : List FD) : Prop := (∀ f ds, G.dfl.lookup f = some ds -> ∃ d, T[f]? = some d /\ d.dfl = ds /\ ds ≠ []) /\ ∀ f n, G.kws.lookup f = some n -> ∃ d, T[f]? = some d /\ d.kn = some n
structure Stands (K : PySem.W.Frag) (mg : Str -> Option Value) (fn bl cl : List Str) (d : FD) (x : Str) (fa : Addr) (fd : FuncData) (ps : List Str) : Prop where
 dk : (d.dfl ≠ [] -> ∃ us dvs, q4a K fd ps us /\ Vals dvs us /\ ∀ H, RepL ⟨K, mg⟩ H d.dfl dvs) /\ ∀ n, d.kn = some n -> KBinds K fd ps [n] (q3v ps.length) (q3v ps.length)
 mg : mg x = some (.ref fa)
 kp : PySem.W.keepIn K (.ref fa) = true
 bi : q4a K fd ps []
 np : d.np = ps.length
 ex : ∃ qual st N, FunD K x qual st fa fd /\ FnScope N ps (q0d st) /\ d.n = N.length /\ q2C ⟨N, (q0d st).names, fn, bl, cl, true, true⟩ d.body (q0m st) = true
section
variable {P : Program} {w : World} {K : PySem.W.Frag} {mg : Str -> Option Value} {base : Heap} {G : Gs} {T : List FD} {fu : Nat} {fn bl cl : List Str}
theorem z0F (hT : T.length = fn.length) (hs : ∀ (i : Nat) d x, T[i]? = some d -> fn[i]? = some x -> ∃ fa fd ps, Stands K mg fn bl cl d x fa fd ps) (hbl : ∀ x ∈ bl, mg x = none) (hxf : XFacts K mg G cl)
  (hcon : ∀ x d, G.con.lookup x = some d -> ∃ u v, mg x = some u /\ RelV v u /\ ∀ H, Rep ⟨K, mg⟩ H d v) (hdc : ∀ x kvs, G.dcs.lookup x = some kvs -> q8D K w mg x kvs) (hdf : DfOk G T) : ∀ (k i : Nat) d x fa fd ps, T[i]? = some d -> fn[i]? = some x -> Stands K mg fn bl cl d x fa fd ps ->
  FnOk P w K mg base (CXx P w base) k fa fd ps (spF ⟨K, mg⟩ ps.length (run G T fu k i))
 | 0, i, d, x, fa, fd, ps, h1, h2, S => by
  refine ⟨λ vs H Q E h => ?_, λ A outer s H args us vs Q E hr he hb hv h => ?_⟩
  ·obtain ⟨_, _, _, _, _, _, q, _⟩ := h
   cases q
  ·obtain ⟨_, _, _, _, _, _, q, _⟩ := h
   cases q
 | k + 1, i, d, x, fa, fd, ps, h1, h2, S => by
  obtain ⟨qual, st, N, F, FS, hn, hc⟩ := S.ex
  refine F.okX FS (λ vs H Q E h => ?_) (λ cdv A outer s H vs Q E hr h => ?_)
  ·obtain ⟨O, ds, o, _, e1, e2, _⟩ := h
   rw [e2.length, e1]
  ·obtain ⟨O, ds, o, ho, e1, e2, e3, e4⟩ := h
   have e3' : (match T[i]? with | none => none | some fd => if ds.length = fd.np then Ou.of (evSs G (run G T fu k) fu fd.body (q0D fd.n ds)) else none) = some o := e3
   rw [h1] at e3'
   have e3'' : (if ds.length = d.np then Ou.of (evSs G (run G T fu k) fu d.body (q0D d.n ds)) else none) = some o := e3'
   rw [if_pos (e1.trans S.np.symm)] at e3''
   have g : Good ⟨N, (q0d st).names, fn, bl, cl, true, true⟩ G (run G T fu k) (cxD P w K mg base N qual (q0d st) fa cdv A outer s H E) (λ _ => E) := by
    refine ⟨rfl, FS.nd, λ y hy => ?_, λ y hy => ?_, λ y hy => ⟨?_, .inl rfl⟩, λ y hy => hy, λ y hy => hy, rfl, hr.units, λ f y hy => ?_, hbl, q7f.s, hcon, λ _ => PassesOwn.leaving, hxf, λ _ => ⟨rfl, rfl, rfl, q7p⟩, hdc⟩
    ·unfold visB at hy
     simp only [Bool.or_eq_true, beq_iff_eq] at hy
     rcases hy with (hy | hy) | hy
     ·exact .inl hy
     ·exact .inr (.inl hy)
     ·exact .inr (.inr hy)
    ·unfold gloB at hy
     rw [beq_iff_eq] at hy
     exact hy
    ·unfold locB at hy
     simp only [Bool.or_eq_true, beq_iff_eq] at hy
     exact hy
    ·have hf : f < T.length := by rw [hT]; exact (List.getElem?_eq_some_iff.mp hy).1
     obtain ⟨d', hd'⟩ : ∃ d', T[f]? = some d' := ⟨_, List.getElem?_eq_getElem hf⟩
     obtain ⟨fa', fd', ps', S'⟩ := hs f d' y hd' hy
     refine ⟨k, fa', fd', ps', hr, S'.mg, S'.kp, S'.bi, λ ds o q => ?_, z0F hT hs hbl hxf hcon hdc hdf k f d' y fa' fd' ps' hd' hy S', ?_, ?_⟩
     rotate_left
     ·intro ds q
      obtain ⟨d2, q1, q2, q3⟩ := hdf.1 f ds q
      rw [hd'] at q1; cases q1
      have := S'.dk.1 (by rw [q2]; exact q3)
      rw [q2] at this
      exact this
     ·intro n q
      obtain ⟨d2, q1, q2⟩ := hdf.2 f n q
      rw [hd'] at q1; cases q1
      exact S'.dk.2 n q2
     cases k with
     | zero => cases q
     | succ k =>
      have q' : (match T[f]? with | none => none | some fd => if ds.length = fd.np then Ou.of (evSs G (run G T fu k) fu fd.body (q0D fd.n ds)) else none) = some o := q
      rw [hd'] at q'
      have q'' : (if ds.length = d'.np then Ou.of (evSs G (run G T fu k) fu d'.body (q0D d'.n ds)) else none) = some o := q'
      split at q''
      ·rename_i z; rw [z, S'.np]
      ·cases q''
   cases ho' : evSs G (run G T fu k) fu d.body (q0D d.n ds) with
   | none => rw [ho'] at e3''; cases e3''
   | some oo =>
    rw [ho'] at e3''
    refine ⟨_, q1W d.body g hc ho', H, O, [], RSt.start hn e2 ho, (λ a ha => (nomatch ha)), ho, Same.refl H, ?_⟩
    cases oo with
    | nx δ => cases e3''; exact λ σ' H' W R fr sm => e4 .non H' sm (show Rep ⟨K, mg⟩ (L2.wo O H') .non .non by unfold Rep; rfl)
    | rt d fr => cases e3''; exact λ v H' sm gt => e4 v H' sm gt
    | rtt d => cases e3''; exact λ v H' sm gt => e4 v H' sm gt
    | ex c δ => cases e3''; exact λ σ' H' W C hm R fr sm => e4 H' C hm sm
end
end L2
end
section
namespace L2
open PySem PySem.Spec PyProof.Rows
noncomputable def okD (fn bl cl : List Str) (d : FD) (N ps : List Str) (st : Stmt) : Bool :=
 (q0d st).kind == .function && !(q0d st).isCoroutine && !(q0d st).isGenerator && q4w N && (N.take ps.length == ps) &&
 ps.all (λ x => (q0d st).names.lookup x == some .local || (q0d st).names.lookup x == some .cell) && (q0d st).names.all (λ y => !(y.2 == .free)) &&
 d.n == N.length && d.np == ps.length && q2C ⟨N, (q0d st).names, fn, bl, cl, true, true⟩ d.body (q0m st)
section
variable {P : Program} {w : World} {K : PySem.W.Frag} {mg : Str -> Option Value} {base h : Heap} {G : Gs} {T : List FD} {fu : Nat} {fn bl cl : List Str}
theorem q7g {d : FD} {x : Str} {N ps : List Str} {st : Stmt} {f : Addr} {oc : Value} {od an : Option Addr} {osl : Array (Option Value)} {dV kV doc pm cdv ct : Value} (X : K.In h) (Ns : h.Ns mainGlobals mg) (ok : okD fn bl cl d N ps st = true)
  (a : PySem.W.nsIn K mainGlobals x = some (some (.ref f))) (l : K.lookup f = some ⟨oc, od, .func (PySem.W.fnOf x x (q0o st) (q0m st) (q0d st) dV kV doc pm an cdv ct), osl⟩)
  (c : PySem.W.codeIn K cdv x = true) (k : PySem.W.keepIn K (.ref f) = true)
  (hb : q4a K (PySem.W.fnOf x x (q0o st) (q0m st) (q0d st) dV kV doc pm an cdv ct) ps [])
  (dk : (d.dfl ≠ [] -> ∃ us dvs, q4a K (PySem.W.fnOf x x (q0o st) (q0m st) (q0d st) dV kV doc pm an cdv ct) ps us /\ Vals dvs us /\ ∀ H, RepL ⟨K, mg⟩ H d.dfl dvs) /\ ∀ n, d.kn = some n -> KBinds K (PySem.W.fnOf x x (q0o st) (q0m st) (q0d st) dV kV doc pm an cdv ct) ps [n] (q3v ps.length) (q3v ps.length)) :
  Stands K mg fn bl cl d x f (PySem.W.fnOf x x (q0o st) (q0m st) (q0d st) dV kV doc pm an cdv ct) ps := by
 unfold okD at ok
 simp only [Bool.and_eq_true, beq_iff_eq, Bool.not_eq_true', List.all_eq_true, Bool.or_eq_true, beq_eq_false_iff_ne] at ok
 obtain ⟨⟨⟨⟨⟨⟨⟨⟨⟨h1, h2⟩, h3⟩, h4⟩, h5⟩, h6⟩, h7⟩, h8⟩, h9⟩, h10⟩ := ok
 exact ⟨dk, PySem.W.mg_of X Ns a, k, hb, h9, x, st, N, ⟨oc, od, dV, kV, doc, pm, an, cdv, ct, osl, rfl, l, c⟩, ⟨h1, h2, h3, q2p h4, h5, h6, h7⟩, h8, h10⟩
theorem q0l {d : FD} {x : Str} {N ps : List Str} {st : Stmt} {f : Addr} {oc : Value} {od an : Option Addr} {osl : Array (Option Value)} {kV doc pm cdv ct : Value} (X : K.In h) (Ns : h.Ns mainGlobals mg) (ok : okD fn bl cl d N ps st = true)
  (a : PySem.W.nsIn K mainGlobals x = some (some (.ref f))) (l : K.lookup f = some ⟨oc, od, .func (PySem.W.fnOf x x (q0o st) (q0m st) (q0d st) .none kV doc pm an cdv ct), osl⟩)
  (c : PySem.W.codeIn K cdv x = true) (k : PySem.W.keepIn K (.ref f) = true)
  (hb : ∀ (kV doc pm : Value) (an : Option Addr) (cdv ct : Value) (us : List Value), us.length = ps.length -> bindArgs (PySem.W.fnOf x x (q0o st) (q0m st) (q0d st) .none kV doc pm an cdv ct) ⟨us, []⟩ = pure (ps.zip us)) (e1 : d.dfl = [] := by rfl) (e2 : d.kn = none := by rfl) :
  Stands K mg fn bl cl d x f (PySem.W.fnOf x x (q0o st) (q0m st) (q0d st) .none kV doc pm an cdv ct) ps :=
 q7g X Ns ok a l c k (.all (hb kV doc pm an cdv ct)) ⟨λ z => absurd e1 z, λ n z => by rw [e2] at z; cases z⟩
theorem z4q {fd : FuncData} {ps : List Str} {n : Str} (h : ∀ (s : Shared) (us : List Value) (w : Value), K.In s.heap -> us.length + 1 = ps.length -> BindsTo s fd ⟨us, [(n, w)]⟩ (ps.zip (us ++ [w]))) (hp : ps ≠ []) : KBinds K fd ps [n] (q3v ps.length) (q3v ps.length) := by
 refine ⟨λ s us ws hK hl => ?_, λ r q => q9p r q⟩
 unfold q3v at hl ⊢
 split at hl
 ·rename_i c
  rw [if_pos c]
  obtain ⟨w, rfl⟩ := List.length_eq_one_iff.mp c.2
  exact h s us w hK c.1
 ·exact absurd (List.length_eq_zero_iff.mp hl.symm) hp
theorem z1O {G : Gs} {T : List FD} (e1 : G.dfl = [] := by rfl) (e2 : G.kws = [] := by rfl) : DfOk G T := ⟨λ f ds q => (by rw [e1] at q; cases q), λ f n q => (by rw [e2] at q; cases q)⟩
noncomputable def HS (K : PySem.W.Frag) (mg : Str -> Option Value) (fn bl cl : List Str) (T : List FD) (fs : List Str) : Prop := ∀ (i : Nat) d x, T[i]? = some d -> fs[i]? = some x -> ∃ fa fd ps, Stands K mg fn bl cl d x fa fd ps
theorem z3n {fs : List Str} : HS K mg fn bl cl [] fs := λ i d x h => by cases h
theorem q0A {d : FD} {x : Str} {fs : List Str} {fa : Addr} {fd : FuncData} {ps : List Str} (h : Stands K mg fn bl cl d x fa fd ps) (t : HS K mg fn bl cl T fs) : HS K mg fn bl cl (d :: T) (x :: fs) := λ i d' x' h1 h2 => by
 cases i with
 | zero => cases h1; cases h2; exact ⟨_, _, _, h⟩
 | succ i => exact t i d' x' h1 h2
theorem z4L {H : Hp} : L2.wo [] H = H := by
 funext b
 unfold L2.wo
 simp
noncomputable def HC (K : PySem.W.Frag) (mg : Str -> Option Value) (c : List (Str × DV)) : Prop := ∀ x d, c.lookup x = some d -> ∃ u v, mg x = some u /\ RelV v u /\ ∀ H, Rep ⟨K, mg⟩ H d v
theorem z2y : HC K mg [] := λ x d h => by cases h
theorem z4N {c : List (Str × DV)} {y : Str} {d : DV} (h : ∃ u v, mg y = some u /\ RelV v u /\ ∀ H, Rep ⟨K, mg⟩ H d v) (t : HC K mg c) : HC K mg ((y, d) :: c) := λ x d' q => by
 rw [List.lookup_cons] at q
 split at q
 ·rename_i e
  cases q
  rw [eq_of_beq e]
  exact h
 ·exact t x d' q
noncomputable def OneL (K : PySem.W.Frag) (mg : Str -> Option Value) (G : Gs) (cl : List Str) (l : List (Str × List Str)) : Prop := ∀ c, (l.lookup c).isSome = true -> ∃ C, XOne K mg G cl c C
theorem z1b {cl : List Str} : OneL K mg G cl [] := λ c h => by cases h
theorem q3F {cl : List Str} {c : Str} {b : List Str} {l : List (Str × List Str)} (h : ∃ C, XOne K mg G cl c C) (t : OneL K mg G cl l) : OneL K mg G cl ((c, b) :: l) := λ c' q => by
 rw [List.lookup_cons] at q
 split at q
 ·rename_i e
  rw [eq_of_beq e]
  exact h
 ·exact t c' q
noncomputable def AllL (mg : Str -> Option Value) (l : List Str) : Prop := ∀ t ∈ l, ∃ Ct, mg t = some (.ref Ct)
theorem z1B : AllL mg [] := λ t h => by cases h
theorem all_cons {t : Str} {l : List Str} (h : ∃ Ct, mg t = some (.ref Ct)) (r : AllL mg l) : AllL mg (t :: l) := λ t' q => by
 rcases List.mem_cons.mp q with e | e
 ·rw [e]; exact h
 ·exact r t' e
noncomputable def OwnL (K : PySem.W.Frag) (mg : Str -> Option Value) (G : Gs) (c : Str) (C : Addr) (l : List Str) : Prop := ∀ t ∈ l, ∀ Ct, mg t = some (.ref Ct) -> PySem.W.kitOne K (.ref C) (.ref Ct) = some (q1I G c t) /\ (q1I G c t = true -> PySem.W.exmOne K (.ref C) (.ref Ct) = some true)
theorem q4C {c : Str} {C : Addr} : OwnL K mg G c C [] := λ t h => by cases h
theorem q0G {c t : Str} {C Ct : Addr} {l : List Str} (m : mg t = some (.ref Ct)) (h : PySem.W.kitOne K (.ref C) (.ref Ct) = some (q1I G c t) /\ (q1I G c t = true -> PySem.W.exmOne K (.ref C) (.ref Ct) = some true)) (r : OwnL K mg G c C l) : OwnL K mg G c C (t :: l) := λ t' q Ct' m' => by
 rcases List.mem_cons.mp q with e | e
 ·subst e
  cases m.symm.trans m'
  exact h
 ·exact r t' e Ct' m'
noncomputable def spS (K : PySem.W.Frag) : Sp := λ vs H Q _ => ∃ (a : Addr) (ns : List Int), vs = [.ref a] /\ ns.length <= 63 /\ SqS K H a (ns.map V.int) /\ ∀ H', Q (.bl true) H'
noncomputable def DCL (K : PySem.W.Frag) (w : World) (mg : Str -> Option Value) (l : List (Str × List (Str × Str))) : Prop := ∀ x kvs, l.lookup x = some kvs -> q8D K w mg x kvs
theorem z1c {w : World} : DCL K w mg [] := λ x kvs h => by cases h
theorem z4O {w : World} {y : Str} {kv : List (Str × Str)} {l : List (Str × List (Str × Str))} (h : q8D K w mg y kv) (t : DCL K w mg l) : DCL K w mg ((y, kv) :: l) := λ x kvs q => by
 rw [List.lookup_cons] at q
 split at q
 ·rename_i e
  cases q
  rw [beq_iff_eq.mp e]
  exact h
 ·exact t x kvs q
noncomputable def KVL (K : PySem.W.Frag) (a : Addr) (l : List (Str × Str)) : Prop := ∀ k v, l.lookup k = some v -> v.length <= sizeLine /\ ∃ t, PySem.W.nsIn K a k = some (some (.str v t))
theorem z5v {a : Addr} : KVL K a [] := λ k v h => by cases h
theorem z4P {a : Addr} {k v : Str} {t : Tok} {l : List (Str × Str)} (h1 : v.length <= sizeLine) (h2 : PySem.W.nsIn K a k = some (some (.str v t))) (r : KVL K a l) : KVL K a ((k, v) :: l) := λ k' v' q => by
 rw [List.lookup_cons] at q
 split at q
 ·rename_i e
  cases q
  rw [beq_iff_eq.mp e]
  exact ⟨h1, t, h2⟩
 ·exact r k' v' q
theorem q9D {k i : Nat} {d : FD} {x p : Str} {fa : Addr} {fd : FuncData} (hT : T.length = fn.length) (hs : HS K mg fn bl cl T fn) (hbl : ∀ x ∈ bl, mg x = none) (hxf : XFacts K mg G cl)
  (hcon : ∀ x d, G.con.lookup x = some d -> ∃ u v, mg x = some u /\ RelV v u /\ ∀ H, Rep ⟨K, mg⟩ H d v) (hdc : ∀ x kvs, G.dcs.lookup x = some kvs -> q8D K w mg x kvs) (hdf : DfOk G T) (h1 : T[i]? = some d) (h2 : fn[i]? = some x) (S : Stands K mg fn bl cl d x fa fd [p])
  (law : ∀ ns : List Int, ns.length <= 63 -> run G T fu k i [.scr ns] = some (.v (.bl true) false)) : FnOk P w K mg base CX0 k fa fd [p] (spS K) := by
 have R := z0F (P := P) (w := w) (base := base) (fu := fu) hT hs hbl hxf hcon hdc hdf k i d x fa fd [p] h1 h2 S
 refine ⟨λ vs H Q E h => ?_, λ A outer s H args us vs Q E hr he hb hv h => ?_⟩
 ·obtain ⟨a, ns, rfl, _⟩ := h
  rfl
 ·obtain ⟨a, ns, rfl, hl, hS, hq⟩ := h
  refine codeAny_mono (R.run A outer s H args us [.ref a] Q E0 hr he hb hv ⟨[], [.scr ns], _, (λ a ha => (nomatch ha)), rfl, ?_, law ns hl, λ v H' _ g => ?_⟩) λ r s' q => ?_
  ·refine RepL.one (q1S.mpr ⟨a, rfl, ?_⟩)
   rw [z4L]
   exact hS
  ·have g' : Rep ⟨K, mg⟩ (L2.wo [] H') (.bl true) v := g
   rw [q3n] at g'
   subst g'
   exact hq H'
  ·cases r with
   | error e =>
    obtain ⟨_, _, _, _, _, _, _, _, _, _, z⟩ := (q : CXx P w base outer H s E0 e s')
    exact z.elim
   | ok fl => cases fl <;> first | exact False.elim q | exact q
end
theorem walkE {l : PySem.W.OpenLaw} {q : Program} {loose : List Str} {XP : (Str -> Option Value) -> Heap -> Prop} {YP : World -> Heap -> Prop} {d : DefRec} {K : Params -> PySem.W.Frag} {k : Nat} {p : Str} (hn : l.most = some 63) (hdf : d.params.defaults = []) (hr : Room k callerA)
  (hY : ∀ (w : World) (h : Heap), YP w h -> (K w.params).In h)
  (F : ∀ (w : World) (mg : Str -> Option Value) (fa : Addr) (h : Heap), (K w.params).In h -> h.Ns mainGlobals mg -> mg d.name = some (.ref fa) ->
   ∃ fd : FuncData, (∀ (s : Shared) (u : Value), BindsTo s fd ⟨[u], []⟩ [(p, u)]) /\ ∀ base : Heap, (K w.params).In base -> base.Ns mainGlobals mg -> FnOk l.prog w (K w.params) mg base CX0 k fa fd [p] (spS (K w.params))) :
  PySem.W.WalkO q loose XP YP l.row.toRowW d [] (λ f vs => PySem.call f vs) :=
 L2.walk_of (n := 63) (k := k) (x := p) (CX := λ _ => CX0) (sp := λ w => spS (K w.params)) hn (by decide) hdf hr hY F (λ _ _ a ns hl hO hS => ⟨a, ns, rfl, hl, SqS.of hO hS, λ _ => rfl⟩) λ _ _ _ _ _ z => z
end L2
end
section
namespace L2
open PySem
section
variable {G : Gs} {F : Nat -> List DV -> Option Ou} {fu : Nat} {δ : List Sv}
theorem q1d {d : DV} {c : Cl} {k : DV -> Cl -> Option Re} : Re.thn (some (.ok d c)) k = k d c := rfl
theorem q3e {l : List (DV × Cl)} {k : List (DV × Cl) -> Option Re} : Rs.thn (some (.ok l)) k = k l := rfl
theorem q6l {ds : List DV} {c : Cl} {k : List DV -> Cl -> Option Re} : Ri.thn (some (.ok ds c)) k = k ds c := rfl
theorem q8W {d : DV} {c : Cl} {k : DV -> Cl -> Option Out} : Re.thnS δ (some (.ok d c)) k = k d c := rfl
theorem z3E {m : MS} {r : List MS} {δ' : List Sv} (h : evS G F fu m δ = some (.nx δ')) : evSs G F fu (m :: r) δ = evSs G F fu r δ' := by
 rw [show evSs G F fu (m :: r) δ = (match evS G F fu m δ with | some (.nx δ') => evSs G F fu r δ' | o => o) from rfl, h]
theorem z4E {m : MS} {r : List MS} {d : DV} {fr : Bool} (h : evS G F fu m δ = some (.rt d fr)) : evSs G F fu (m :: r) δ = some (.rt d fr) := by
 rw [show evSs G F fu (m :: r) δ = (match evS G F fu m δ with | some (.nx δ') => evSs G F fu r δ' | o => o) from rfl, h]
theorem q0E {T : List FD} {k f : Nat} {ds : List DV} {fd : FD} (h : T[f]? = some fd) (hl : ds.length = fd.np) : run G T fu (k + 1) f ds = Ou.of (evSs G (run G T fu k) fu fd.body (q0D fd.n ds)) := by
 show (match T[f]? with | none => none | some fd => if ds.length = fd.np then Ou.of (evSs G (run G T fu k) fu fd.body (q0D fd.n ds)) else none) = _
 rw [h]
 exact if_pos hl
end
end L2
namespace L2
open PySem
theorem q4t {g : DV -> Option Rc} {f : DV -> DV} : ∀ {ds : List DV}, (∀ d ∈ ds, g d = some (.item (f d))) -> q0L g ds = some (ds.map f)
 | [], _ => rfl
 | d :: r, h => by
  have h0 := h d (List.mem_cons_self ..)
  have ih := q4t (ds := r) (λ d hd => h d (List.mem_cons_of_mem _ hd))
  unfold q0L
  rw [h0]
  show (match q0L g r with | none => none | some xs => some (f d :: xs)) = _
  rw [ih]
  rfl
end L2
namespace L2
open PySem
section
variable {G : Gs} {F : Nat -> List DV -> Option Ou} {fu : Nat} {δ δ' : List Sv} {m : MS} {r a b body : List MS} {o : Option Out} {c it : ME} {d : DV} {fr : Bool} {tg : Tg} {ds : List DV} {cl : Cl}
theorem q1k (h : evSs G F fu r δ = some (.rt d fr)) : Ou.of (evSs G F fu r δ) = some (.v d fr) := by rw [h]; rfl
theorem z5C (h : evSs G F fu r δ = some (.nx δ')) : Ou.of (evSs G F fu r δ) = some (.v .non false) := by rw [h]; rfl
theorem q0g (h : evS G F fu m δ = some (.nx δ')) (h2 : evSs G F fu r δ' = o) : evSs G F fu (m :: r) δ = o := (z3E h).trans h2
theorem q1e (h : evS G F fu m δ = some (.rt d fr)) : evSs G F fu (m :: r) δ = some (.rt d fr) := z4E h
theorem q9v {bb : Bool} (hc : tstD (evE G F c δ) = some (.ok bb)) : evS G F fu (.iff c a b) δ = if bb then evSs G F fu a δ else evSs G F fu b δ := by
 show Rt.thnS δ (tstD (evE G F c δ)) (λ k => if k then evSs G F fu a δ else evSs G F fu b δ) = _
 rw [hc]; rfl
theorem q6M (hc : tstD (evE G F c δ) = some (.ok true)) (h : evSs G F fu a δ = some (.nx δ')) (h2 : evSs G F fu r δ' = o) : evSs G F fu (.iff c a b :: r) δ = o := q0g ((q9v hc).trans h) h2
theorem z2O (hc : tstD (evE G F c δ) = some (.ok false)) (h : evSs G F fu b δ = some (.nx δ')) (h2 : evSs G F fu r δ' = o) : evSs G F fu (.iff c a b :: r) δ = o := q0g ((q9v hc).trans h) h2
theorem q8I (hc : tstD (evE G F c δ) = some (.ok true)) (h : evSs G F fu a δ = some (.rt d fr)) : evSs G F fu (.iff c a b :: r) δ = some (.rt d fr) := q1e ((q9v hc).trans h)
theorem q1E (hc : tstD (evE G F c δ) = some (.ok false)) (h2 : evSs G F fu r δ = o) : evSs G F fu (.iff c a [] :: r) δ = o := z2O hc rfl h2
theorem q4J (hw : q1l (evE G F it δ) = some (.ok ds cl)) (hc : cl = .strong \/ cl = .fresh) (h : q1y tg (λ δ' => evSs G F fu body δ') ds δ = some (.nx δ')) (h2 : evSs G F fu r δ' = o) : evSs G F fu (.fo tg it body :: r) δ = o := by
 refine q0g ?_ h2
 show Ri.thnS δ (q1l (evE G F it δ)) (λ ds c => if c = .strong \/ c = .fresh then q1y tg (λ δ' => evSs G F fu body δ') ds δ else none) = _
 rw [hw]
 show (if cl = .strong \/ cl = .fresh then q1y tg (λ δ' => evSs G F fu body δ') ds δ else none) = _
 rw [if_pos hc]
 exact h
theorem q0h {i : Nat} {e : ME} (h : evE G F e δ = some (.ok d cl)) (hs : stro d cl = true) : evS G F fu (.set i false e) δ = some (.nx (δ.set i (.val d))) := by
 show Re.thnS δ (evE G F e δ) (λ d c => if false then q3H i δ d c else (if stro d c then some (.nx (δ.set i (.val d))) else none)) = _
 rw [h]
 show (if stro d cl then some (Out.nx (δ.set i (.val d))) else none) = _
 rw [if_pos hs]
theorem q2S {i : Nat} {e : ME} (h : evE G F e δ = some (.ok d .fresh)) : evS G F fu (.set i true e) δ = some (.nx (δ.set i (.own d))) := by
 show Re.thnS δ (evE G F e δ) (λ d c => if true then q3H i δ d c else (if stro d c then some (.nx (δ.set i (.val d))) else none)) = _
 rw [h]
 rfl
theorem q0Z {e : ME} (h : evE G F e δ = some (.ok d cl)) (hc : cl ≠ .ft := by first | decide | (intro z; cases z)) : evS G F fu (.ret e) δ = some (.rt d (frD d cl)) := by
 show Re.thnS δ (evE G F e δ) (λ d c => some (retD d c)) = _
 rw [h]
 show some (retD d cl) = _
 cases cl <;> first | rfl | exact absurd rfl hc
theorem q8H {e : ME} (h : evE G F e δ = some (.ok d cl)) : evS G F fu (.exp e) δ = some (.nx δ) := by
 show Re.thnS δ (evE G F e δ) (λ _ _ => some (.nx δ)) = _
 rw [h]; rfl
theorem q0k {f : Nat} {es : List ME} {l : List (DV × Cl)} (ha : evEs G F es δ = some (.ok l)) (hs : (l.all λ p => p.2 == .strong || p.2 == .fresh) = true) (h : F f (l.map (·.1)) = some (.v d fr)) : evE G F (.call f es) δ = some (.ok d (if fr then .fresh else .strong)) := by
 show Rs.thn (evEs G F es δ) (λ l => q2A F f l) = _
 rw [ha]
 show q2A F f l = _
 unfold q2A
 rw [h, hs]
 rfl
theorem q3A {f : Nat} {es : List ME} {l : List (DV × Cl)} (ha : evEs G F es δ = some (.ok l)) (hs : (l.all λ p => p.2 == .strong || p.2 == .fresh) = false) (h : F f (l.map (·.1)) = some (.v d fr)) : evE G F (.call f es) δ = some (.ok d .weak) := by
 show Rs.thn (evEs G F es δ) (λ l => q2A F f l) = _
 rw [ha]
 show q2A F f l = _
 unfold q2A
 rw [h, hs]
 rfl
theorem q0z {e : ME} {x : Bool} (h : evE G F e δ = some (.ok (.bl x) cl)) : tstD (evE G F e δ) = some (.ok x) := by rw [h]; rfl
theorem q4u {e : ME} {x : Bool} (h : evE G F e δ = some (.ok (.bl x) cl)) : evE G F (.not e) δ = some (.ok (.bl (!x)) .strong) := by
 show Re.thn (evE G F e δ) (λ x _ => (q2q x).map λ k => .ok (.bl (!k)) .strong) = _
 rw [h]; rfl
end
end L2
namespace L2
open PySem
section
variable {G : Gs} {F : Nat -> List DV -> Option Ou} {fu : Nat} {δ δ' : List Sv} {a b : ME} {x y : DV} {cx cy : Cl}
theorem q2m {op : Operator} {r : Option Re} (ha : evE G F a δ = some (.ok x cx)) (hb : evE G F b δ = some (.ok y cy)) (h : binD op x y cx cy = r) : evE G F (.bin op a b) δ = r := by
 show Re.thn (evE G F a δ) (λ x cx => Re.thn (evE G F b δ) λ y cy => binD op x y cx cy) = _
 rw [ha, q1d, hb, q1d, h]
theorem q1P {op : CmpOp} {t : Bool} (ha : evE G F a δ = some (.ok x cx)) (hb : evE G F b δ = some (.ok y cy)) (h : cmpD op x y = some t) : evE G F (.cmp op a b) δ = some (.ok (.bl t) .strong) := by
 show Re.thn (evE G F a δ) (λ x _ => Re.thn (evE G F b δ) λ y _ => (cmpD op x y).map λ k => .ok (.bl k) .strong) = _
 rw [ha, q1d, hb, q1d, h]; rfl
theorem q0F {d : DV} (ha : evE G F a δ = some (.ok x cx)) (hb : evE G F b δ = some (.ok y cy)) (h : ixD x y = some d) : evE G F (.ix a b) δ = some (.ok d cx.item) := by
 show Re.thn (evE G F a δ) (λ x cx => Re.thn (evE G F b δ) λ y _ => (ixD x y).map λ d => .ok d cx.item) = _
 rw [ha, q1d, hb, q1d, h]; rfl
theorem q9k {o : Option Re} (ha : evE G F a δ = some (.ok (.bl false) cx)) (hb : evE G F b δ = o) : evE G F (.or [a, b]) δ = o := by
 show Re.thn (evE G F a δ) (λ x c => orD x c (evE G F b δ)) = _
 rw [ha]; exact hb
theorem z1A (ha : evE G F a δ = some (.ok (.bl true) cx)) : evE G F (.or [a, b]) δ = some (.ok (.bl true) cx) := by
 show Re.thn (evE G F a δ) (λ x c => orD x c (evE G F b δ)) = _
 rw [ha]; rfl
theorem q0e : evEs G F [] δ = some (.ok []) := rfl
theorem q0b {es : List ME} {l : List (DV × Cl)} (ha : evE G F a δ = some (.ok x cx)) (h : evEs G F es δ = some (.ok l)) : evEs G F (a :: es) δ = some (.ok ((x, cx) :: l)) := by
 unfold evEs
 rw [ha, h]
end
end L2
namespace L2
open PySem
section
variable {G : Gs} {F : Nat -> List DV -> Option Ou} {fu : Nat} {δ δ' : List Sv} {a b c e : ME} {x y d : DV} {cx cy cl : Cl} {i : Nat} {ds : List DV}
theorem q6U {t : Bool} (h : tstD (evE G F c δ) = some (.ok t)) : evE G F (.ite c a b) δ = if t then evE G F a δ else evE G F b δ := by
 show Rt.thn (tstD (evE G F c δ)) (λ k => if k then evE G F a δ else evE G F b δ) = _
 rw [h]; rfl
theorem q5g (h0 : δ[i]? = some (.own (.lst ds))) (h : evE G F e δ = some (.ok d cl)) (hs : stro d cl = true) (hl : ds.length < mostLen) : evS G F fu (.app i e) δ = some (.nx (δ.set i (.own (.lst (ds ++ [d]))))) := by
 unfold evS
 rw [h0]
 show Re.thnS δ (evE G F e δ) (λ d c => if stro d c /\ ds.length < mostLen then some (.nx (δ.set i (.own (.lst (ds ++ [d]))))) else none) = _
 rw [h]
 exact if_pos ⟨hs, hl⟩
theorem q6h {k : ME} {n : Int} {j : Nat} (h0 : δ[i]? = some (.own (.lst ds))) (h : evE G F e δ = some (.ok d cl)) (hk : evE G F k δ = some (.ok (.int n) cx)) (hs : stro d cl = true) (hj : q1v ds.length n = some j) : evS G F fu (.seti i k e) δ = some (.nx (δ.set i (.own (.lst (ds.set j d))))) := by
 unfold evS
 rw [h0]
 show Re.thnS δ (evE G F e δ) (λ d c => Re.thnS δ (evE G F k δ) λ k _ => (match k with | .int k => (match q1v ds.length k with | some j => if stro d c then some (.nx (δ.set i (.own (.lst (ds.set j d))))) else none | none => none) | _ => none)) = _
 rw [h, q8W, hk, q8W]
 show (match q1v ds.length n with | some j => if stro d cl then some (Out.nx (δ.set i (.own (.lst (ds.set j d))))) else none | none => none) = _
 rw [hj]
 exact if_pos hs
theorem q3d {test : List Sv -> Option Rt} {body : List Sv -> Option Out} {n : Nat} (h : test δ = some (.ok false)) : q0Y test body (n + 1) δ = some (.nx δ) := by
 unfold q0Y
 rw [h]
theorem q1T {test : List Sv -> Option Rt} {body : List Sv -> Option Out} {n : Nat} {o : Option Out} (h : test δ = some (.ok true)) (hb : body δ = some (.nx δ')) (hr : q0Y test body n δ' = o) : q0Y test body (n + 1) δ = o := by
 unfold q0Y
 rw [h, hb]
 exact hr
theorem q9S {body r : List MS} {o : Option Out} (h : q0Y (λ δ' => tstD (evE G F c δ')) (λ δ' => evSs G F fu body δ') fu δ = some (.nx δ')) (h2 : evSs G F fu r δ' = o) : evSs G F fu (.wh c body :: r) δ = o := q0g h h2
end
end L2
namespace L2
open PySem
section
variable {G : Gs} {F : Nat -> List DV -> Option Ou} {fu : Nat} {δ δ' : List Sv} {a b c e : ME} {x y d : DV} {cx cy cl : Cl} {i : Nat} {ds : List DV}
theorem q0Q {I : Nat -> List Sv -> Prop} {body : List Sv -> Option Out} : ∀ (n : Nat) (lo : Int) {δ : List Sv}, (∀ j < n, ∀ δ, I j δ -> ∃ δ2, body (δ.set i (.val (.int (lo + j)))) = some (.nx δ2) /\ I (j + 1) δ2) -> I 0 δ -> ∃ δ', q1y (.one i) body (upTo lo n) δ = some (.nx δ') /\ I n δ'
 | 0, _, δ, _, i0 => ⟨δ, rfl, i0⟩
 | n + 1, lo, δ, h, i0 => by
  have e : upTo lo (n + 1) = .int lo :: upTo (lo + 1) n := by
   unfold upTo
   rw [List.range_succ_eq_map, List.map_cons, List.map_map]
   congr 1
   ·congr 1; omega
   ·apply List.map_congr_left
    intro a _
    show DV.int _ = DV.int _
    congr 1
    push_cast
    omega
  obtain ⟨δ2, h0, i1⟩ := h 0 (by omega) δ i0
  rw [show lo + ((0 : Nat) : Int) = lo by omega] at h0
  obtain ⟨δ', h1, i2⟩ := q0Q (I := λ j => I (j + 1)) n (lo + 1) (δ := δ2) (λ j hj δ q => by
   obtain ⟨δ3, q1, q2⟩ := h (j + 1) (by omega) δ q
   refine ⟨δ3, ?_, q2⟩
   rw [show lo + 1 + ((j : Nat) : Int) = lo + ((j + 1 : Nat) : Int) by push_cast; omega]
   exact q1) i1
  refine ⟨δ', ?_, i2⟩
  rw [e]
  show (match body (δ.set i (.val (.int lo))) with | some (.nx δ2) => q1y (.one i) body (upTo (lo + 1) n) δ2 | o => o) = _
  rw [h0]
  exact h1
theorem q7Q {elt it : ME} {tg : Tg} {fr : List (Option Nat)} {f : DV -> DV} (hw : q1l (evE G F it δ) = some (.ok ds cl)) (hc : cl ≠ .weak) (hl : ds.length <= mostLen)
  (h : ∀ d ∈ ds, ∃ δ', tg.bind d (q0x fr δ) = some δ' /\ evE G F elt δ' = some (.ok (f d) .strong)) : evE G F (.comp elt tg it fr) δ = some (.ok (.lst (ds.map f)) .fresh) := by
 show Ri.thn (q1l (evE G F it δ)) (λ ds c => if c = .weak \/ mostLen < ds.length then (if c = .weak /\ ds.length <= mostLen then q2w (q0L (λ d => (tg.bind d (q0x fr [])).bind λ δ' => Rc.of (evE G F elt δ')) ds) else none) else q1D (q0L (λ d => (tg.bind d (q0x fr δ)).bind λ δ' => Rc.of (evE G F elt δ')) ds)) = _
 rw [hw, q6l, if_neg (by rintro (z | z); exact hc z; omega), q4t (f := f) (λ d hd => ?_)]
 ·rfl
 ·obtain ⟨δ', e1, e2⟩ := h d hd
  rw [e1, Option.bind_some, e2]
  rfl
theorem z0A {l : List Int} {j : Nat} (h : j < l.length) : ixD (.lst (l.map DV.int)) (.int j) = some (.int l[j]) := by
 have hh : (j : Int) < ((l.map DV.int).length : Int) := by rw [List.length_map]; exact_mod_cast h
 simp only [ixD, atD, q1v, if_pos (Int.natCast_nonneg j), if_pos hh, Option.bind_some, Int.toNat_natCast, List.getElem?_map, List.getElem?_eq_getElem h, Option.map_some]
theorem z0G {l : List Int} {i : Int} (h0 : 0 <= i) (h : i < l.length) : ∃ v, ixD (.lst (l.map DV.int)) (.int i) = some (.int v) := by
 obtain ⟨j, rfl⟩ := Int.eq_ofNat_of_zero_le h0
 exact ⟨_, z0A (by omega)⟩
end
end L2
namespace L2
open PySem
section
variable {G : Gs} {F : Nat -> List DV -> Option Ou} {fu : Nat} {δ δ' : List Sv} {r body : List MS} {it : ME} {cl : Cl} {ds : List DV} {tg : Tg} {o : Option Out}
theorem q6E {J : List Sv -> Prop} (hw : q1l (evE G F it δ) = some (.ok ds cl)) (hc : cl = .strong \/ cl = .fresh) (lp : ∃ δ', q1y tg (λ δ' => evSs G F fu body δ') ds δ = some (.nx δ') /\ J δ') (h2 : ∀ δ', J δ' -> evSs G F fu r δ' = o) : evSs G F fu (.fo tg it body :: r) δ = o := by
 obtain ⟨δ', h, j⟩ := lp
 exact q4J hw hc h (h2 δ' j)
end
end L2
namespace L2
open PySem
section
variable {G : Gs} {F : Nat -> List DV -> Option Ou} {fu : Nat} {δ δ' : List Sv} {a b : ME} {i j : Int} {cx cy : Cl}
theorem q0c : evE G F (.int i) δ = some (.ok (.int i) .strong) := rfl
theorem q0a {n : Nat} {d : DV} (h : δ[n]? = some (.val d)) : evE G F (.var n) δ = some (.ok d .strong) := by unfold evE; rw [h]
theorem q3P {n : Nat} {d : DV} (h : δ[n]? = some (.own d)) : evE G F (.var n) δ = some (.ok d .top) := by unfold evE; rw [h]
theorem q1H (ha : evE G F a δ = some (.ok (.int i) cx)) (hb : evE G F b δ = some (.ok (.int j) cy)) : evE G F (.bin .Add a b) δ = some (.ok (.int (i + j)) .strong) := q2m ha hb rfl
theorem q7w (ha : evE G F a δ = some (.ok (.int i) cx)) (hb : evE G F b δ = some (.ok (.int j) cy)) : evE G F (.bin .Sub a b) δ = some (.ok (.int (i - j)) .strong) := q2m ha hb rfl
theorem q3b (ha : evE G F a δ = some (.ok (.int i) cx)) (hb : evE G F b δ = some (.ok (.int j) cy)) (h : q2l i j = true) : evE G F (.bin .Mult a b) δ = some (.ok (.int (i * j)) .strong) := q2m ha hb (if_pos h)
theorem q1f (ha : evE G F a δ = some (.ok (.int i) cx)) (hb : evE G F b δ = some (.ok (.int j) cy)) (h : 0 < j) : evE G F (.bin .Mod a b) δ = some (.ok (.int (i % j)) .strong) := q2m ha hb (if_pos h)
theorem q7V (ha : evE G F a δ = some (.ok (.int i) cx)) (hb : evE G F b δ = some (.ok (.int j) cy)) (h : 0 < j /\ j < 1073741824) : evE G F (.bin .FloorDiv a b) δ = some (.ok (.int (i / j)) .strong) := q2m ha hb (if_pos ⟨h.1, Int.lt_trans h.2 (by decide)⟩)
theorem b_eq (ha : evE G F a δ = some (.ok (.int i) cx)) (hb : evE G F b δ = some (.ok (.int j) cy)) : evE G F (.cmp .Eq a b) δ = some (.ok (.bl (i == j)) .strong) := q1P ha hb rfl
theorem b_gt (ha : evE G F a δ = some (.ok (.int i) cx)) (hb : evE G F b δ = some (.ok (.int j) cy)) : evE G F (.cmp .Gt a b) δ = some (.ok (.bl (decide (j < i))) .strong) := q1P ha hb rfl
end
end L2
namespace L2
open PySem
section
variable {G : Gs} {F : Nat -> List DV -> Option Ou} {fu : Nat} {δ δ' : List Sv} {es : List ME} {l : List (DV × Cl)}
theorem q3o {x : Str} : evE G F (.str x) δ = some (.ok (.str x) .strong) := rfl
theorem q5h (h : evEs G F es δ = some (.ok l)) (hl : l.length <= mostLen) (hs : stros l = true) : evE G F (.tup es) δ = some (.ok (.tup (l.map (·.1))) .strong) := by
 show Rs.thn (evEs G F es δ) (λ l => if l.length <= mostLen then some (.ok (.tup (l.map (·.1))) (if stros l then .strong else .weak)) else none) = _
 rw [h, q3e, if_pos hl, hs]
 rfl
end
end L2
namespace L2
open PySem
end L2
namespace L2
open PySem
theorem q7A {tg : Tg} {body : List Sv -> Option Out} {d : DV} {δ δ1 δ2 : List Sv} (h1 : tg.bind d δ = some δ1) (h2 : body δ1 = some (.nx δ2)) : q1y tg body [d] δ = some (.nx δ2) := by
 unfold q1y
 rw [h1]
 simp only [h2]
 rfl
end L2
end
section
namespace k61
open PySem L2
noncomputable def q2v : FD := { n := 3, np := 3, dfl := [], body := [.ret (.and [.isi (.var 0) ["int"], .not (.isi (.var 0) ["bool"]), .chain .LtE .LtE (.var 1) (.var 0) (.var 2)])] }
noncomputable def q0W : FD := { n := 3, np := 1, dfl := [], body := [.set 1 false (.int 0), .fo (.one 2) (.var 0) [.set 1 false (.call 2 [.var 1, .bi .abs [.var 2]])], .ret (.comp (.bin .FloorDiv (.var 0) (.var 1)) (.one 0) (.var 0) [none, some 1])] }
noncomputable def q1b : FD := { n := 5, np := 2, dfl := [], body := [.set 2 false (.var 0), .set 3 false (.var 1), .wh (.cmp .NotEq (.var 3) (.int 0)) [.set 4 false (.bin .Mod (.var 2) (.var 3)), .set 2 false (.var 3), .set 3 false (.var 4)], .ret (.var 2)] }
noncomputable def q1L : FD := { n := 2, np := 2, dfl := [], body := [.iff (.not (.call 0 [.var 0, .int 0, .bin .Sub (.var 1) (.int 1)])) [.rse "NoCard" (.str "a card is an int from 0 on, less than the number of its side's cards")] []] }
noncomputable def z0b : FD := { n := 7, np := 3, dfl := [], body := [.set 3 true (.lst []), .set 4 false (.var 0), .wh (.cmp .Eq (.ix (.var 4) (.int 0)) (.str "ask")) [.set 5 false (.ite (.cmp .Eq (.ix (.var 4) (.int 1)) (.str "row")) (.var 1) (.var 2)), .set 6 false (.bin .BitAnd (.bin .RShift (.ix (.var 4) (.int 2)) (.var 5)) (.int 1)), .app 3 (.var 6), .set 4 false (.ite (.cmp .Eq (.var 6) (.int 1)) (.ix (.var 4) (.int 4)) (.ix (.var 4) (.int 3)))], .ret0 [.var 3, .ix (.var 4) (.int 1)]] }
noncomputable def q2Q : FD := { n := 3, np := 3, dfl := [], body := [.ret (.ix (.call 4 [.var 0, .var 1, .var 2]) (.int 1))] }
noncomputable def q0S : FD := { n := 4, np := 4, dfl := [], body := [.exp (.call 3 [.var 2, .bi .len [.var 0]]), .exp (.call 3 [.var 3, .bi .len [.ix (.var 0) (.int 0)]]), .ret (.call 9 [.var 1, .call 8 [.var 0, .var 1, .var 2, .var 3]])] }
noncomputable def q1z : FD := { n := 5, np := 2, dfl := [], body := [.set 2 true (.lst []), .fo (.one 3) (.rng [.bi .len [.var 0]]) [.ext 2 (.comp (.tup [.call 8 [.var 1, .var 2, .var 3, .var 0], .var 3, .var 0]) (.one 0) (.rng [.bi .len [.ix (.var 0) (.int 0)]]) [none, some 0, some 1, some 3])], .set 4 false (.bi .min [.var 2]), .ret (.bin .Add (.call 9 [.var 1, .ix (.var 4) (.int 0)]) (.tup [.ix (.var 4) (.int 1), .ix (.var 4) (.int 2)]))] }
noncomputable def q2i : FD := { n := 4, np := 4, dfl := [], body := [.ret (.bi .sum [.compi (.var 0) (.many [0, 1]) (.var 1) (.cmp .Eq (.call 5 [.var 1, .var 2, .var 3]) (.ix (.ix (.var 4) (.var 2)) (.var 3))) [none, none, some 2, some 3, some 0]])] }
noncomputable def q2y : FD := { n := 2, np := 2, dfl := [], body := [.ret (.bi .tuple [.call 1 [.lst [.var 1, .bi .sum [.comp (.var 0) (.many [0, 1]) (.var 0) [none, none]]]]])] }
noncomputable def q2x : FD := { n := 1, np := 1, dfl := [], body := [.ret (.and [.isi (.var 0) ["int"], .not (.isi (.var 0) ["bool"])])] }
noncomputable def q1r : FD := { n := 2, np := 2, dfl := [], body := [.iff (.cmp .Lt (.var 1) (.bi .len [.var 0])) [.ret (.ix (.var 0) (.var 1))] [], .ret (.int 0)] }
noncomputable def q0U : FD := { n := 5, np := 2, dfl := [], body := [.set 2 true (.lst []), .set 3 false (.bin .Add (.bin .Mod (.var 0) (.int 2147483647)) (.int 48271)), .fo (.one 4) (.rng [.var 1]) [.set 3 false (.bin .Mod (.bin .Add (.bin .Add (.bin .Mult (.var 3) (.int 48271)) (.bin .Mult (.var 4) (.var 4))) (.int 11)) (.int 2147483647)), .app 2 (.bin .FloorDiv (.var 3) (.int 7))], .ret (.var 2)] }
noncomputable def q0X : FD := { n := 9, np := 3, dfl := [], body := [.set 3 false (.call 12 [.call 11 [.var 0, .int 0], .int 8]), .set 4 false (.bin .Add (.int 1) (.bin .Mod (.ix (.var 3) (.int 0)) (.var 2))), .set 5 false (.bin .Add (.int 1) (.bin .Mod (.ix (.var 3) (.int 1)) (.var 2))), .set 6 false (.ix (.lst [.int 2, .int 3, .int 10, .int 2]) (.bin .Mod (.ix (.var 3) (.int 3)) (.int 4))), .set 7 true (.comp (.bin .Mod (.var 0) (.var 1)) (.one 0) (.call 12 [.call 11 [.var 0, .int 1], .bin .Mult (.var 4) (.var 5)]) [none, some 6]), .fo (.one 8) (.rng [.bi .min [.bin .Mult (.var 4) (.var 5), .bin .Sub (.bi .len [.var 0]) (.var 1)]]) [.seti 7 (.var 8) (.bin .Mod (.ix (.var 0) (.bin .Add (.var 1) (.var 8))) (.var 6))], .ret (.bi .tuple [.comp (.bi .tuple [.sl (.var 1) (.bin .Mult (.var 0) (.var 2)) (.bin .Add (.bin .Mult (.var 0) (.var 2)) (.var 2))]) (.one 0) (.rng [.var 4]) [none, some 7, some 5]])] }
noncomputable def q1M : FD := { n := 3, np := 1, dfl := [], body := [.set 1 false (.lst []), .fo (.one 2) (.var 0) [.set 1 false (.bin .Add (.var 1) (.bi .list [.var 2]))], .ret (.var 1)] }
noncomputable def q0T : FD := { n := 6, np := 3, dfl := [], body := [.set 3 false (.ix (.var 0) (.bin .Mod (.var 1) (.bi .len [.var 0]))), .iff (.or [.cmp .Eq (.var 2) (.int 0), .cmp .Eq (.bin .Mod (.var 3) (.int 4)) (.int 0)]) [.ret (.tup [.str "end", .bin .Mod (.bin .FloorDiv (.var 3) (.int 4)) (.int 10)])] [], .set 4 false (.call 15 [.var 0, .bin .Add (.bin .Mult (.int 2) (.var 1)) (.int 1), .bin .Sub (.var 2) (.int 1)]), .set 5 false (.call 15 [.var 0, .bin .Add (.bin .Mult (.int 2) (.var 1)) (.int 2), .bin .Sub (.var 2) (.int 1)]), .ret (.tup [.str "ask", .ix (.lst [.str "row", .str "column"]) (.bin .Mod (.bin .FloorDiv (.var 3) (.int 4)) (.int 2)), .bin .Add (.int 1) (.bin .Mod (.bin .FloorDiv (.var 3) (.int 8)) (.int 255)), .var 4, .var 5])] }
noncomputable def q0C : FD := { n := 2, np := 2, dfl := [], body := [.iff (.cmp .Eq (.ix (.var 0) (.int 0)) (.str "end")) [.ret (.tup [.str "end", .ix (.var 1) (.bin .Mod (.ix (.var 0) (.int 1)) (.bi .len [.var 1]))])] [], .ret (.tup [.str "ask", .ix (.var 0) (.int 1), .ix (.var 0) (.int 2), .call 16 [.ix (.var 0) (.int 3), .var 1], .call 16 [.ix (.var 0) (.int 4), .var 1]])] }
noncomputable def q1q : FD := { n := 4, np := 3, dfl := [], body := [.wh (.cmp .Eq (.ix (.var 0) (.int 0)) (.str "ask")) [.set 3 false (.var 1), .iff (.cmp .Eq (.ix (.var 0) (.int 1)) (.str "column")) [.set 3 false (.var 2)] [], .set 0 false (.ix (.var 0) (.bin .Add (.int 3) (.bin .BitAnd (.bin .RShift (.ix (.var 0) (.int 2)) (.var 3)) (.int 1))))], .ret (.ix (.var 0) (.int 1))] }
noncomputable def q1a : FD := { n := 6, np := 2, dfl := [], body := [.set 2 false (.tup [.str "end", .ix (.var 1) (.bin .Mod (.ix (.var 0) (.int 0)) (.bi .len [.var 1]))]), .fo (.one 3) (.rng [.int 11]) [.set 4 false (.tup [.str "end", .ix (.var 1) (.bin .Mod (.ix (.var 0) (.bin .Add (.int 1) (.var 3))) (.bi .len [.var 1]))]), .set 5 false (.ix (.lst [.tup [.var 2, .var 4], .tup [.var 4, .var 2]]) (.bin .Mod (.ix (.var 0) (.bin .Add (.int 12) (.var 3))) (.int 2))), .set 2 false (.tup [.str "ask", .ix (.lst [.str "row", .str "column"]) (.bin .Mod (.ix (.var 0) (.bin .Add (.int 23) (.var 3))) (.int 2)), .bin .Add (.int 1) (.bin .Mod (.ix (.var 0) (.bin .Add (.int 34) (.var 3))) (.int 255)), .ix (.var 5) (.int 0), .ix (.var 5) (.int 1)])], .ret (.var 2)] }
noncomputable def q1n : FD := { n := 10, np := 2, dfl := [], body := [.set 2 false (.call 12 [.call 11 [.var 0, .int 2], .int 70]), .set 3 false (.call 14 [.var 1]), .set 4 false (.bin .Add (.int 1) (.bin .Mod (.ix (.var 2) (.int 60)) (.int 6))), .iff (.cmp .Eq (.bin .Mod (.ix (.var 2) (.int 61)) (.int 8)) (.int 1)) [.set 4 false (.int 19)] [], .set 5 true (.lst []), .fo (.one 6) (.rng [.var 4]) [.set 7 false (.call 12 [.bin .Add (.ix (.var 2) (.var 6)) (.var 6), .int 61]), .set 8 false (.call 15 [.var 7, .int 0, .int 4]), .iff (.cmp .Gt (.bin .Mod (.ix (.var 7) (.int 60)) (.int 4)) (.int 0)) [.set 8 false (.call 16 [.var 8, .var 3])] [], .iff (.cmp .Eq (.bin .Mod (.ix (.var 7) (.int 59)) (.int 5)) (.int 1)) [.set 8 false (.call 18 [.var 7, .var 3])] [], .set 9 false (.ix (.lst [.int 1, .bin .Add (.int 1) (.bin .Mod (.ix (.var 7) (.int 58)) (.int 6)), .bin .Add (.int 1) (.bin .Mod (.bin .Mult (.bin .Mult (.ix (.var 7) (.int 58)) (.ix (.var 7) (.int 57))) (.int 10007)) (.bin .Sub (.bin .Pow (.int 10) (.int 20)) (.int 1)))]) (.bin .Mod (.ix (.var 2) (.int 62)) (.int 3))), .app 5 (.tup [.var 9, .var 8])], .ret (.var 5)] }
noncomputable def q2z : FD := { n := 4, np := 4, dfl := [], body := [.ret (.bi .sum [.compi (.var 0) (.many [0, 1]) (.var 1) (.cmp .Eq (.call 17 [.var 1, .var 2, .var 3]) (.ix (.ix (.var 4) (.var 2)) (.var 3))) [none, none, some 2, some 3, some 0]])] }
noncomputable def q1O : FD := { n := 5, np := 3, dfl := [], body := [.iff (.or [.not (.isi (.var 0) ["tuple"]), .cmp .NotEq (.bi .len [.var 0]) (.int 2), .not (.call 10 [.ix (.var 0) (.int 0)]), .not (.call 10 [.ix (.var 0) (.int 1)])]) [.ret (.bl false)] [], .set 3 false (.ix (.var 0) (.int 1)), .set 4 false (.ix (.var 0) (.int 0)), .wh (.cmp .Gt (.var 4) (.int 0)) [.par [3, 4] [.var 4, .bin .Mod (.var 3) (.var 4)]], .ret (.and [.cmp .Gt (.ix (.var 0) (.int 1)) (.int 0), .cmp .Eq (.var 3) (.int 1), .cmp .Eq (.bin .Mult (.ix (.var 0) (.int 0)) (.var 2)) (.bin .Mult (.var 1) (.ix (.var 0) (.int 1)))])] }
noncomputable def q1p : FD := { n := 6, np := 4, dfl := [], body := [.set 4 false (.non), .tryc [.exp (.call 6 [.var 0, .var 1, .var 2, .var 3])] "TalkError" 5 4, .iff (.or [.cmp .Is (.var 4) (.non), .not (.isx (.var 4) "NoCard"), .not (.isx (.var 4) "ValueError")]) [.ret (.bl false)] [], .ret (.and [.not (.isx (.var 4) "NoPlan"), .not (.isx (.var 4) "NoTable")])] }
noncomputable def q1N : FD := { n := 7, np := 4, dfl := [], body := [.iff (.or [.not (.isi (.var 0) ["tuple"]), .cmp .NotEq (.bi .len [.var 0]) (.int 4), .cmp .NotEq (.bi .len [.compi (.var 0) (.one 0) (.var 0) (.call 10 [.var 0]) [none]]) (.int 4)]) [.ret (.bl false)] [], .set 4 false (.lst []), .fo (.one 5) (.rng [.bi .len [.var 1]]) [.set 4 false (.bin .Add (.var 4) (.comp (.tup [.call 20 [.var 1, .var 2, .var 3, .var 0], .var 3, .var 0]) (.one 0) (.rng [.bi .len [.ix (.var 1) (.int 0)]]) [none, some 1, some 2, some 5]))], .set 6 false (.bi .min [.var 4]), .ret (.and [.cmp .Eq (.slf (.var 0) (.int 2)) (.slf (.var 6) (.int 1)), .call 21 [.slt (.var 0) (.int 2), .ix (.var 6) (.int 0), .var 3]])] }
noncomputable def q9z : FD := { n := 11, np := 1, dfl := [], body := [.set 1 false (.call 13 [.var 0, .int 3, .int 8]), .set 2 false (.call 19 [.var 0, .var 1]), .set 3 true (.bi .list [.var 2]), .set 4 false (.bi .sum [.comp (.var 0) (.many [0, 1]) (.var 2) [none, none]]), .fo (.one 5) (.rng [.bi .len [.var 1]]) [.fo (.one 6) (.rng [.bi .len [.ix (.var 1) (.int 0)]]) [.iff (.not (.call 21 [.call 6 [.var 1, .var 3, .var 5, .var 6], .call 20 [.var 1, .var 2, .var 5, .var 6], .var 4])) [.ret (.bl false)] []]], .iff (.or [.not (.call 23 [.call 7 [.var 1, .var 3], .var 1, .var 2, .var 4]), .cmp .NotEq (.var 3) (.var 2)]) [.ret (.bl false)] [], .set 7 false (.call 12 [.call 11 [.var 0, .int 2], .int 2]), .fo (.one 8) (.rng [.int 2]) [.set 9 false (.lst [.bin .Sub (.neg (.int 1)) (.bin .Mod (.ix (.var 7) (.int 0)) (.int 9)), .ix (.lst [.bi .len [.var 1], .bi .len [.ix (.var 1) (.int 0)]]) (.var 8), .int 10, .bl true, .non, .str "0", .lst [.int 0]]), .set 10 true (.lst [.int 0, .int 0]), .seti 10 (.var 8) (.ix (.var 9) (.bin .Mod (.ix (.var 7) (.int 1)) (.int 7))), .iff (.not (.call 22 [.var 1, .var 2, .ix (.var 10) (.int 0), .ix (.var 10) (.int 1)])) [.ret (.bl false)] []], .app 3 (.tup [.int 3, .tup [.str "end", .ix (.ix (.var 1) (.int 0)) (.int 0)]]), .frz 3, .ret (.call 23 [.call 7 [.var 1, .var 3], .var 1, .var 3, .bin .Add (.var 4) (.int 3)])] }
noncomputable def T : List FD := [q2v, q0W, q1b, q1L, z0b, q2Q, q0S, q1z, q2i, q2y, q2x, q1r, q0U, q0X, q1M, q0T, q0C, q1q, q1a, q1n, q2z, q1O, q1p, q1N, q9z]
noncomputable def G : Gs := { con := [], cls := [("TalkError", ["ValueError", "Exception", "BaseException", "object"]), ("NoTable", ["TalkError", "ValueError", "Exception", "BaseException", "object"]), ("NoCard", ["TalkError", "ValueError", "Exception", "BaseException", "object"]), ("NoPlan", ["TalkError", "ValueError", "Exception", "BaseException", "object"])] }
end k61
namespace k61
open PySem L2
variable {fu k : Nat} {F : Nat -> List DV -> Option Ou} {δ : List Sv} {ds : List DV} {cl : Cl}
theorem q8X : cmpD .Eq (.str "ask") (.str "ask") = some true := by decide +kernel
theorem z0R : cmpD .Eq (.str "end") (.str "ask") = some false := by decide +kernel
theorem z4K : cmpD .Eq (.str "row") (.str "row") = some true := by decide +kernel
theorem z3N : cmpD .Eq (.str "column") (.str "row") = some false := by decide +kernel
theorem q6Z (ns : List Int) (j : Nat) : ∃ v : Int, run G T fu (k + 1) 11 [.scr ns, .int j] = some (.v (.int v) false) := by
 rw [q0E (fd := q1r) rfl rfl]
 unfold q1r
 by_cases h : j < ns.length
 ·refine ⟨ns[j], q1k (q8I (q0z (cl := .strong) ?_) (q1e ?_))⟩
  ·simp [evE, evEs, q1d, q3e, q0D, biOk, biD, lenD, cmpD, h]
  ·simp [evS, evE, q1d, q0D, ixD, q1v, h, Re.thnS, frD, retD, Cl.item]
 ·refine ⟨0, q1k (q1E (q0z (cl := .strong) ?_) (q1e rfl))⟩
  simp [evE, evEs, q1d, q3e, q0D, biOk, biD, lenD, cmpD]
  omega
theorem q3z (xs : List Int) (v : Int) : xs.map DV.int ++ [.int v] = (xs ++ [v]).map DV.int := by rw [List.map_append]; rfl
theorem q3Z {F : Nat -> List DV -> Option Ou} {δ : List Sv} {e : ME} {n : Nat} {cl : Cl} (h : evE G F e δ = some (.ok (.int n) cl)) (hn : n <= 1000) : q1l (evE G F (.rng [e]) δ) = some (.ok (upTo 0 n) .fresh) := by
 show q1l (Rs.thn (evEs G F [e] δ) (λ l => (rngD l).map λ ds => .ok (.lst ds) .fresh)) = _
 rw [q0b h q0e, q3e]
 have hs : (q1m (n : Int) && decide ((n : Int) <= (mostLen : Int))) = true := by
  rw [Bool.and_eq_true, decide_eq_true_iff]
  refine ⟨?_, Int.le_trans (show (n : Int) <= 1000 by omega) (by decide)⟩
  unfold q1m
  rw [Bool.and_eq_true, decide_eq_true_iff, decide_eq_true_iff]
  exact ⟨Int.le_trans (by decide) (Int.natCast_nonneg n), Int.lt_of_le_of_lt (show (n : Int) <= 1000 by omega) (by decide)⟩
 show q1l ((if q1m (n : Int) && decide ((n : Int) <= (mostLen : Int)) then some (upTo 0 (n : Int).toNat) else none).map λ ds => .ok (.lst ds) .fresh) = _
 rw [if_pos hs, Int.toNat_natCast]
 rfl
theorem z3Y {j : Nat} (hj : j < 1000) : q2l (j : Int) (j : Int) = true := by unfold q2l; simp; omega
theorem m48 (x : Int) : q2l x 48271 = true := by unfold q2l; simp
theorem q5c (c : Int) (n : Nat) (hn : n <= 1000) : ∃ xs : List Int, xs.length = n /\ run G T fu (k + 1) 12 [.int c, .int n] = some (.v (.lst (xs.map DV.int)) true) := by
 rw [q0E (fd := q0U) rfl rfl]
 obtain ⟨δ1, h1, xs, num, z, hl, rfl⟩ := q0Q (i := 4) (I := λ j δ => ∃ (xs : List Int) (num : Int) (z : Sv), xs.length = j /\ δ = [.val (.int c), .val (.int n), .own (.lst (xs.map DV.int)), .val (.int num), z])
  (body := λ δ' => evSs G (run G T fu k) fu [.set 3 false (.bin .Mod (.bin .Add (.bin .Add (.bin .Mult (.var 3) (.int 48271)) (.bin .Mult (.var 4) (.var 4))) (.int 11)) (.int 2147483647)), .app 2 (.bin .FloorDiv (.var 3) (.int 7))] δ') n 0 (δ := [.val (.int c), .val (.int n), .own (.lst []), .val (.int (c % 2147483647 + 48271)), .no])
  (λ j hj δ I => by
   obtain ⟨xs, num, z, hl, rfl⟩ := I
   rw [show (0 : Int) + (j : Int) = j by omega]
   obtain ⟨N, hN⟩ : ∃ N : Int, (num * 48271 + (j : Int) * j + 11) % 2147483647 = N := ⟨_, rfl⟩
   obtain ⟨D, hD⟩ : ∃ D : Int, N / 7 = D := ⟨_, rfl⟩
   refine ⟨_, q0g (q0h (d := .int N) (cl := .strong) ?_ rfl) (q0g (q5g (d := .int D) (cl := .strong) rfl ?_ rfl (by rw [List.length_map, hl]; exact Nat.lt_of_lt_of_le (Nat.lt_of_lt_of_le hj hn) (by decide))) rfl), xs ++ [D], N, .val (.int j), by rw [List.length_append, hl]; rfl, ?_⟩
   ·rw [← hN]; exact q1f (q1H (q1H (q3b (q0a rfl) q0c (m48 _)) (q3b (q0a rfl) (q0a rfl) (z3Y (by omega)))) q0c) q0c (by decide)
   ·rw [← hD]; exact q7V (q0a rfl) q0c (by decide)
   ·rw [← q3z]; rfl) ⟨[], _, .no, rfl, rfl⟩
 refine ⟨xs, hl, ?_⟩
 unfold q0U
 exact q1k (q0g (q2S rfl) (q0g (q0h (d := .int (c % 2147483647 + 48271)) (cl := .strong) (q1H (q1f (q0a rfl) q0c (by decide)) q0c) rfl) (q4J (q3Z (n := n) (q0a rfl) hn) (.inr rfl) h1 (q1e rfl))))
theorem q9H (r o : Nat) : Builtin.bitAnd r o = ((r &&& o : Nat) : Int) := by
 unfold Builtin.bitAnd
 rw [decide_eq_true (Int.natCast_nonneg r), decide_eq_true (Int.natCast_nonneg o)]
 rfl
inductive Pl where
 | fin (v : Int) | ask (row : Bool) (c : Nat) (a b : Pl)
noncomputable def side (r : Bool) : DV := if r then .str "row" else .str "column"
noncomputable def dv : Pl -> DV
 | .fin v => .tup [.str "end", .int v]
 | .ask r c a b => .tup [.str "ask", side r, .int c, dv a, dv b]
noncomputable def ht : Pl -> Nat
 | .fin _ => 0
 | .ask _ _ a b => max (ht a) (ht b) + 1
noncomputable def vl : Pl -> Nat -> Nat -> Int
 | .fin v, _, _ => v
 | .ask s o a b, i, j => if o.testBit (if s then i else j) then vl b i j else vl a i j
theorem z0C (o i : Nat) : binD .BitAnd (.int ((o : Int) / 2 ^ ((i : Int).toNat))) (.int 1) .strong .strong = some (.ok (.int (if o.testBit i then 1 else 0)) .strong) := by
 show some (Re.ok (DV.int (Builtin.bitAnd _ 1)) Cl.strong) = _
 have e : (o : Int) / 2 ^ ((i : Int).toNat) = ((o / 2 ^ i : Nat) : Int) := by
  rw [Int.toNat_natCast]; push_cast; rfl
 rw [e, show (1 : Int) = ((1 : Nat) : Int) from rfl, q9H, Nat.and_one_is_mod, Nat.testBit_eq_decide_div_mod_eq]
 have : o / 2 ^ i % 2 = 0 \/ o / 2 ^ i % 2 = 1 := by omega
 rcases this with h | h <;> rw [h] <;> rfl
noncomputable def wayC : ME := .cmp .Eq (.ix (.var 4) (.int 0)) (.str "ask")
noncomputable def wayB : List MS := [.set 5 false (.ite (.cmp .Eq (.ix (.var 4) (.int 1)) (.str "row")) (.var 1) (.var 2)), .set 6 false (.bin .BitAnd (.bin .RShift (.ix (.var 4) (.int 2)) (.var 5)) (.int 1)), .app 3 (.var 6), .set 4 false (.ite (.cmp .Eq (.var 6) (.int 1)) (.ix (.var 4) (.int 4)) (.ix (.var 4) (.int 3)))]
theorem z0i (q : DV) (s : Bool) (o : Nat) (a b : Pl) (i j : Nat) (bs : List DV) (c d : Sv) (hl : bs.length <= 10000) (t : Bool) (ht : o.testBit (if s then i else j) = t) :
  evSs G (run G T fu k) fu wayB [.val q, .val (.int i), .val (.int j), .own (.lst bs), .val (dv (.ask s o a b)), c, d] = some (.nx [.val q, .val (.int i), .val (.int j), .own (.lst (bs ++ [.int (if t then 1 else 0)])), .val (dv (if t then b else a)), .val (.int ((if s then i else j : Nat) : Int)), .val (.int (if t then 1 else 0))]) := by
 have hbl : bs.length < mostLen := Nat.lt_of_le_of_lt hl (by decide)
 have hb := z0C o (if s then i else j)
 rw [ht] at hb
 unfold wayB
 refine q0g (q0h (d := .int ((if s then i else j : Nat) : Int)) (cl := .strong) ?_ rfl) (q0g (q0h (d := .int (if t then 1 else 0)) (cl := .strong) (q2m (x := .int ((o : Int) / 2 ^ (((if s then i else j : Nat) : Int).toNat))) (cx := .strong) ?_ rfl hb) rfl) (q0g (q5g (d := .int (if t then 1 else 0)) (cl := .strong) rfl rfl rfl hbl) (q0g (q0h (d := dv (if t then b else a)) (cl := .strong) ?_ rfl) rfl)))
 ·cases s
  ·exact (q6U (t := false) (q0z (cl := .strong) (by simp [evE, dv, q1d, ixD, atD, q1v, side, z3N]))).trans rfl
  ·exact (q6U (t := true) (q0z (cl := .strong) (by simp [evE, dv, q1d, ixD, atD, q1v, side, z4K]))).trans rfl
 ·simp [evE, dv, q1d, ixD, atD, q1v, binD]
 ·cases t
  ·exact (q6U (t := false) (q0z (cl := .strong) rfl)).trans (by simp [evE, dv, q1d, ixD, atD, q1v, Cl.item])
  ·exact (q6U (t := true) (q0z (cl := .strong) rfl)).trans (by simp [evE, dv, q1d, ixD, atD, q1v, Cl.item])
theorem q5d {e : ME} {ds : List DV} {c : Cl} (h : evE G F e δ = some (.ok (.lst ds) c)) : evE G F (.bi .tuple [e]) δ = some (.ok (.tup ds) c.item) := by
 show Rs.thn (evEs G F [e] δ) (λ l => q4q l) = _
 rw [q0b h q0e]
 rfl
theorem q4H {e : ME} {ds : List DV} {c : Cl} (h : evE G F e δ = some (.ok (.lst ds) c)) : evE G F (.bi .len [e]) δ = some (.ok (.int ds.length) .strong) := by
 show Rs.thn (evEs G F [e] δ) (λ l => lenD l) = _
 rw [q0b h q0e]
 rfl
theorem q9r {e : ME} {ds : List DV} {c : Cl} (h : evE G F e δ = some (.ok (.tup ds) c)) : evE G F (.bi .len [e]) δ = some (.ok (.int ds.length) .strong) := by
 show Rs.thn (evEs G F [e] δ) (λ l => lenD l) = _
 rw [q0b h q0e]
 rfl
noncomputable def iD (r : List Int) : List DV := r.map DV.int
noncomputable def tT (rows : List (List Int)) : DV := .tup (rows.map λ r => .tup (iD r))
noncomputable def Rect (n m : Nat) (rows : List (List Int)) : Prop := rows.length = n /\ ∀ r ∈ rows, r.length = m
theorem z1D {r : List Int} {j : Nat} (h : j < r.length) : ixD (.tup (iD r)) (.int j) = some (.int (r.getD j 0)) := by
 have hh : (j : Int) < ((r.map DV.int).length : Int) := by rw [List.length_map]; exact_mod_cast h
 unfold iD
 simp only [ixD, atD, q1v, if_pos (Int.natCast_nonneg j), if_pos hh, Option.bind_some, Int.toNat_natCast, List.getElem?_map, List.getElem?_eq_getElem h, Option.map_some, List.getD_eq_getElem?_getD, Option.getD_some]
theorem z0D {rows : List (List Int)} {i : Nat} (h : i < rows.length) : ixD (tT rows) (.int i) = some (.tup (iD (rows.getD i []))) := by
 have hh : (i : Int) < ((rows.map λ r => DV.tup (iD r)).length : Int) := by rw [List.length_map]; exact_mod_cast h
 simp only [tT, ixD, atD, q1v, if_pos (Int.natCast_nonneg i), if_pos hh, Option.bind_some, Int.toNat_natCast, List.getElem?_map, List.getElem?_eq_getElem h, Option.map_some, List.getD_eq_getElem?_getD, Option.getD_some]
theorem q6T {rows : List (List Int)} {i : Nat} (h : i < rows.length) : rows.getD i [] ∈ rows := by
 rw [List.getD_eq_getElem?_getD, List.getElem?_eq_getElem h]
 exact List.getElem_mem h
theorem z4X {e : ME} {i : Int} {cl : Cl} (h : evE G F e δ = some (.ok (.int i) cl)) (h1 : i <= 1000) (h2 : -1000 <= i) : q1l (evE G F (.rng [e]) δ) = some (.ok (upTo 0 i.toNat) .fresh) := by
 show q1l (Rs.thn (evEs G F [e] δ) (λ l => (rngD l).map λ ds => .ok (.lst ds) .fresh)) = _
 rw [q0b h q0e, q3e]
 have hs : (q1m i && decide (i <= (mostLen : Int))) = true := by
  rw [Bool.and_eq_true, decide_eq_true_iff]
  refine ⟨?_, Int.le_trans h1 (by decide)⟩
  unfold q1m
  rw [Bool.and_eq_true, decide_eq_true_iff, decide_eq_true_iff]
  exact ⟨Int.le_trans (by decide) h2, Int.lt_of_le_of_lt h1 (by decide)⟩
 show q1l ((if q1m i && decide (i <= (mostLen : Int)) then some (upTo 0 i.toNat) else none).map λ ds => .ok (.lst ds) .fresh) = _
 rw [if_pos hs]
 rfl
noncomputable def q5z (n m : Nat) (ws : List Int) : List (List Int) := (List.range n).map λ j => (ws.drop (j * m)).take m
theorem q8Z {n m : Nat} {ws : List Int} (h : ws.length = n * m) : Rect n m (q5z n m ws) := by
 unfold q5z
 refine ⟨by rw [List.length_map, List.length_range], λ r hr => ?_⟩
 obtain ⟨j, hj, rfl⟩ := List.mem_map.mp hr
 have hj' := List.mem_range.mp hj
 rw [List.length_take, List.length_drop, h]
 have : (j + 1) * m <= n * m := Nat.mul_le_mul_right m hj'
 rw [Nat.add_mul, Nat.one_mul] at this
 omega
theorem z5t {a lo hi : ME} {ds : List DV} {c c1 c2 : Cl} {l h : Int} (ha : evE G F a δ = some (.ok (.lst ds) c)) (hl : evE G F lo δ = some (.ok (.int l) c1)) (hh : evE G F hi δ = some (.ok (.int h) c2)) : evE G F (.sl a lo hi) δ = some (.ok (.lst (cutD ds (some l) (some h))) (Cl.anew c c)) := by
 unfold evE
 rw [ha, q1d, hl, q1d]
 show Re.thn (evE G F hi δ) _ = _
 rw [hh]
 rfl
theorem z2p {ws : List Int} {n m j : Nat} (h : ws.length = n * m) (hj : j < n) : cutD (iD ws) (some ((j : Int) * m)) (some ((j : Int) * m + m)) = iD ((ws.drop (j * m)).take m) := by
 have e1 : ((j : Int) * m) = ((j * m : Nat) : Int) := by push_cast; rfl
 have e2 : ((j : Int) * m + m) = ((j * m + m : Nat) : Int) := by push_cast; rfl
 have le : j * m + m <= n * m := by
  have : (j + 1) * m <= n * m := Nat.mul_le_mul_right m hj
  rw [Nat.add_mul, Nat.one_mul] at this
  exact this
 have len : (iD ws).length = n * m := by unfold iD; rw [List.length_map, h]
 unfold cutD slIx
 rw [e2, e1]
 simp only [len]
 rw [if_neg (by omega), if_neg (by omega), Int.toNat_natCast, Int.toNat_natCast, Nat.min_eq_left le, Nat.min_eq_left (show j * m <= n * m by omega), show j * m + m - j * m = m by omega]
 unfold iD
 rw [← List.map_drop, ← List.map_take]
theorem z3y {n j : Nat} (h : j < n) : q1v n (j : Int) = some j := by
 unfold q1v
 rw [if_pos (Int.natCast_nonneg j), if_pos (by omega), Int.toNat_natCast]
theorem z0U {F : Nat -> List DV -> Option Ou} {δ : List Sv} {es : List ME} {l : List (DV × Cl)} (h : evEs G F es δ = some (.ok l)) : evE G F (.bi .min es) δ = minD l := by
 have e : evE G F (.bi .min es) δ = Rs.thn (evEs G F es δ) (λ l => minD l) := rfl
 rw [e, h]
 rfl
theorem q6A {F : Nat -> List DV -> Option Ou} {δ : List Sv} {es : List ME} {l : List (DV × Cl)} (h : evEs G F es δ = some (.ok l)) (hl : l.length <= mostLen) (hs : stros l = true) : evE G F (.lst es) δ = some (.ok (.lst (l.map (·.1))) .fresh) := by
 have e : evE G F (.lst es) δ = Rs.thn (evEs G F es δ) (λ l => if l.length <= mostLen then some (.ok (.lst (l.map (·.1))) (if stros l then .fresh else .weak)) else none) := rfl
 rw [e, h, q3e, if_pos hl, hs]
 rfl
theorem z3G (h : evSs G F fu r δ = some (.rtt d)) : Ou.of (evSs G F fu r δ) = some (.t d) := by rw [h]; rfl
theorem z2N {m : MS} (h : evS G F fu m δ = some (.rtt d)) : evSs G F fu (m :: r) δ = some (.rtt d) := by
 unfold evSs
 rw [h]
theorem z2b {es : List ME} {ds : List DV} {l : List (DV × Cl)} (h : evEs G F es δ = some (.ok ((.lst ds, .top) :: l))) (hl : l.length < mostLen) (hs : stros l = true) : evS G F fu (.ret0 es) δ = some (.rtt (.tup (.lst ds :: l.map (·.1)))) := by
 show Rs.thnS δ (evEs G F es δ) (λ l => q7F l) = _
 rw [h]
 exact if_pos ⟨hl, hs⟩
theorem q9W {f : Nat} {es : List ME} {l : List (DV × Cl)} (ha : evEs G F es δ = some (.ok l)) (hs : (l.all λ p => p.2 == .strong || p.2 == .fresh) = true) (h : F f (l.map (·.1)) = some (.t d)) (hd : (match d with | .lst _ => Cl.fresh | _ => .ft) = .ft := by rfl) : evE G F (.call f es) δ = some (.ok d .ft) := by
 show Rs.thn (evEs G F es δ) (λ l => q2A F f l) = _
 rw [ha]
 show q2A F f l = _
 unfold q2A
 rw [h, hs]
 clear h
 cases d <;> first | rfl | cases hd
noncomputable def bts : Pl -> Nat -> Nat -> List Int
 | .fin _, _, _ => []
 | .ask s o a b, i, j => if o.testBit (if s then i else j) then 1 :: bts b i j else 0 :: bts a i j
noncomputable def ans (p : Pl) (i j : Nat) : DV := .tup [.lst ((bts p i j).map DV.int), .int (vl p i j)]
theorem cat1 (bs cs : List Int) (v : Int) : (bs ++ [v]) ++ cs = bs ++ v :: cs := by simp
theorem q6e (q : DV) (i j : Nat) : ∀ (p : Pl) (bs : List Int) (c d : Sv) (n : Nat), ht p < n -> bs.length + ht p <= 10000 -> ∃ (c' d' : Sv),
  q0Y (λ δ' => tstD (evE G (run G T fu k) wayC δ')) (λ δ' => evSs G (run G T fu k) fu wayB δ') n [.val q, .val (.int i), .val (.int j), .own (.lst (bs.map DV.int)), .val (dv p), c, d] = some (.nx [.val q, .val (.int i), .val (.int j), .own (.lst ((bs ++ bts p i j).map DV.int)), .val (.tup [.str "end", .int (vl p i j)]), c', d'])
 | p, _, _, _, 0, h, _ => absurd h (Nat.not_lt_zero _)
 | .fin v, bs, c, d, n + 1, _, _ => ⟨c, d, by
   rw [show bts (.fin v) i j = [] from rfl, List.append_nil]
   exact q3d (q0z (cl := .strong) (by simp [wayC, evE, q1d, dv, ixD, atD, q1v, z0R]))⟩
 | .ask s o a b, bs, c, d, n + 1, h, hl => by
  unfold ht at h hl
  have st := λ t ht => z0i (fu := fu) (k := k) q s o a b i j (bs.map DV.int) c d (by rw [List.length_map]; omega) t ht
  cases t : o.testBit (if s then i else j) with
  | true =>
   obtain ⟨c', d', e⟩ := q6e q i j b (bs ++ [1]) (.val (.int ((if s then i else j : Nat) : Int))) (.val (.int 1)) n (by omega) (by rw [List.length_append, List.length_singleton]; omega)
   refine ⟨c', d', ?_⟩
   rw [show vl (.ask s o a b) i j = vl b i j by rw [vl, t]; rfl, show bts (.ask s o a b) i j = 1 :: bts b i j by rw [bts, t]; rfl, ← cat1]
   rw [← q3z] at e
   exact q1T (q0z (cl := .strong) (by simp [wayC, evE, q1d, dv, ixD, atD, q1v, q8X])) (st true t) e
  | false =>
   obtain ⟨c', d', e⟩ := q6e q i j a (bs ++ [0]) (.val (.int ((if s then i else j : Nat) : Int))) (.val (.int 0)) n (by omega) (by rw [List.length_append, List.length_singleton]; omega)
   refine ⟨c', d', ?_⟩
   rw [show vl (.ask s o a b) i j = vl a i j by rw [vl, t]; rfl, show bts (.ask s o a b) i j = 0 :: bts a i j by rw [bts, t]; rfl, ← cat1]
   rw [← q3z] at e
   exact q1T (q0z (cl := .strong) (by simp [wayC, evE, q1d, dv, ixD, atD, q1v, q8X])) (st false t) e
theorem z5B (p : Pl) (i j : Nat) (h : ht p < fu) (hl : ht p <= 10000) : run G T fu (k + 1) 4 [dv p, .int i, .int j] = some (.t (ans p i j)) := by
 obtain ⟨c', d', e⟩ := q6e (fu := fu) (k := k) (dv p) i j p [] .no .no fu h (by rw [List.length_nil]; omega)
 rw [List.nil_append] at e
 rw [q0E (fd := z0b) rfl rfl]
 unfold z0b
 exact z3G (q0g (q2S rfl) (q0g (q0h (d := dv p) (cl := .strong) rfl rfl) (q9S e (z2N (z2b (l := [(.int (vl p i j), .strong)]) (q0b (q3P rfl) (q0b (q0F (q0a rfl) q0c rfl) q0e)) (Nat.lt_of_lt_of_le (Nat.lt_succ_self 1) (by decide)) rfl)))))
section
variable {G : Gs} {a b : ME} {r : List ME} {cx : Cl} {o : Option Re}
theorem q8V (ha : evE G F a δ = some (.ok (.bl true) cx)) (hb : evE G F (.and (b :: r)) δ = o) : evE G F (.and (a :: b :: r)) δ = o := by
 have e : evE G F (.and (a :: b :: r)) δ = Re.thn (evE G F a δ) (λ x c => andD x c (q2T G F (b :: r) δ)) := by
  rw [evE, q2T]; rfl
 have e2 : evE G F (.and (b :: r)) δ = q2T G F (b :: r) δ := by rw [evE]
 rw [e, ha, q1d, ← e2, hb]
 rfl
theorem z2l (ha : evE G F a δ = o) : evE G F (.and [a]) δ = o := by
 have e : evE G F (.and [a]) δ = evE G F a δ := by rw [evE, q2T]; rfl
 rw [e, ha]
end
theorem q7R (p : Pl) (i j : Nat) (h : ht p < fu) (hl : ht p <= 10000) : run G T fu (k + 2) 5 [dv p, .int i, .int j] = some (.v (.int (vl p i j)) false) := by
 rw [q0E (fd := q2Q) rfl rfl]
 unfold q2Q
 exact q1k (q1e (q0Z (q0F (q9W (l := [(dv p, .strong), (.int i, .strong), (.int j, .strong)]) rfl rfl (z5B p i j h hl)) q0c rfl)))
theorem z3S : cmpD .Eq (.str "row") (.str "column") = some false := by decide +kernel
theorem z3h : cmpD .Eq (.str "column") (.str "column") = some true := by decide +kernel
end k61
end
section
namespace k61
open PySem L2
variable {fu k : Nat} {F : Nat -> List DV -> Option Ou} {δ : List Sv} {ds : List DV} {cl : Cl} {n m : Nat}
theorem q6w {l r : Nat} (hr : 0 < r) (hl : r < l) : 2 * (l % r) < l := by
 have h1 := Nat.mod_lt l hr
 have h2 := Nat.div_add_mod l r
 have h3 : 1 <= l / r := Nat.div_pos (by omega) hr
 have h4 : r <= r * (l / r) := Nat.le_mul_of_pos_right r h3
 omega
theorem z0B {a b : ME} {i j : Nat} {cx cy : Cl} (ha : evE G F a δ = some (.ok (.int (i : Int)) cx)) (hb : evE G F b δ = some (.ok (.int (j : Int)) cy)) (h : 0 < j) : evE G F (.bin .Mod a b) δ = some (.ok (.int ((i % j : Nat) : Int)) .strong) := by
 have q := q1f ha hb (by omega)
 rw [show ((i % j : Nat) : Int) = (i : Int) % (j : Int) from rfl]
 exact q
theorem z4b {a b : ME} {i j : Nat} {cx cy : Cl} (ha : evE G F a δ = some (.ok (.int (i : Int)) cx)) (hb : evE G F b δ = some (.ok (.int (j : Int)) cy)) (h : 0 < j) (h2 : j < 2 ^ 200) : evE G F (.bin .FloorDiv a b) δ = some (.ok (.int ((i / j : Nat) : Int)) .strong) := by
 refine q2m ha hb ?_
 show (if (0 : Int) < (j : Int) /\ (j : Int) < 2 ^ 200 then some (Re.ok (.int ((i : Int) / (j : Int))) .strong) else none) = _
 rw [if_pos ⟨by omega, by omega⟩]
 rfl
noncomputable def gdC : ME := .cmp .NotEq (.var 3) (.int 0)
noncomputable def gdB : List MS := [.set 4 false (.bin .Mod (.var 2) (.var 3)), .set 2 false (.var 3), .set 3 false (.var 4)]
theorem gd_f {x y : Sv} {g : Nat} {c : Sv} : tstD (evE G F gdC [x, y, .val (.int (g : Int)), .val (.int ((0 : Nat) : Int)), c]) = some (.ok false) := q0z (cl := .strong) (q1P (q0a rfl) q0c rfl)
theorem gd_t {x y : Sv} {g l : Nat} {c : Sv} (h : 0 < l) : tstD (evE G F gdC [x, y, .val (.int (g : Int)), .val (.int (l : Int)), c]) = some (.ok true) := by
 have q : evE G F gdC [x, y, .val (.int (g : Int)), .val (.int (l : Int)), c] = some (.ok (.bl (!((l : Int) == 0))) .strong) := q1P (q0a rfl) q0c rfl
 rw [show ((l : Int) == 0) = false by rw [beq_eq_false_iff_ne]; omega] at q
 exact q0z q
theorem gd_s {x y : Sv} {g l : Nat} {c : Sv} (h : 0 < l) : evSs G F fu gdB [x, y, .val (.int (g : Int)), .val (.int (l : Int)), c] = some (.nx [x, y, .val (.int (l : Int)), .val (.int ((g % l : Nat) : Int)), .val (.int ((g % l : Nat) : Int))]) :=
 q0g (q0h (z0B (q0a rfl) (q0a rfl) h) rfl) (q0g (q0h (cl := .strong) (q0a rfl) rfl) (q0g (q0h (cl := .strong) (q0a rfl) rfl) rfl))
theorem z0M (x y : Sv) : ∀ (m g l N : Nat) (c : Sv), l < 2 ^ m -> 2 * m + 1 <= N -> ∃ c', q0Y (λ δ' => tstD (evE G F gdC δ')) (λ δ' => evSs G F fu gdB δ') N [x, y, .val (.int (g : Int)), .val (.int (l : Int)), c] = some (.nx [x, y, .val (.int ((Nat.gcd g l : Nat) : Int)), .val (.int ((0 : Nat) : Int)), c'])
 | m, g, 0, N + 1, c, _, _ => ⟨c, by rw [Nat.gcd_zero_right]; exact q3d gd_f⟩
 | 0, g, l + 1, _, _, h, _ => by simp at h
 | m + 1, g, l + 1, N + 2, c, h, hN => by
  rw [Nat.gcd_comm, Nat.gcd_rec]
  by_cases hr : g % (l + 1) = 0
  ·rw [hr, Nat.gcd_zero_left]
   have st := gd_s (F := F) (fu := fu) (x := x) (y := y) (g := g) (l := l + 1) (c := c) (by omega)
   rw [hr] at st
   exact ⟨_, q1T (gd_t (by omega)) st (q3d gd_f)⟩
  ·have hr0 : 0 < g % (l + 1) := by omega
   have hlt : g % (l + 1) < l + 1 := Nat.mod_lt g (by omega)
   have hh := q6w hr0 hlt
   have hb : (l + 1) % (g % (l + 1)) < 2 ^ m := by rw [Nat.pow_succ] at h; omega
   obtain ⟨c', e⟩ := z0M x y m (g % (l + 1)) ((l + 1) % (g % (l + 1))) N (.val (.int (((l + 1) % (g % (l + 1)) : Nat) : Int))) hb (by omega)
   rw [Nat.gcd_comm, ← Nat.gcd_rec] at e
   exact ⟨c', q1T (gd_t (by omega)) (gd_s (by omega)) (q1T (gd_t hr0) (gd_s hr0) e)⟩
theorem z4i (a b : Nat) (hb : b < 2 ^ 190) (hf : 400 <= fu) : run G T fu (k + 1) 2 [.int (a : Int), .int (b : Int)] = some (.v (.int ((Nat.gcd a b : Nat) : Int)) false) := by
 obtain ⟨c', e⟩ := z0M (fu := fu) (F := run G T fu k) (.val (.int (a : Int))) (.val (.int (b : Int))) 190 a b fu .no hb (by omega)
 rw [q0E (fd := q1b) rfl rfl]
 unfold q1b
 exact q1k (q0g (q0h (cl := .strong) (q0a rfl) rfl) (q0g (q0h (cl := .strong) (q0a rfl) rfl) (q9S e (q1e (q0Z (cl := .strong) (q0a rfl))))))
theorem q8R {e : ME} {i : Nat} {c : Cl} (h : evE G F e δ = some (.ok (.int (i : Int)) c)) : evE G F (.bi .abs [e]) δ = some (.ok (.int (i : Int)) .strong) := by
 show Rs.thn (evEs G F [e] δ) (λ l => absD l) = _
 rw [q0b h q0e]
 show some (Re.ok (.int (if (i : Int) < 0 then -(i : Int) else (i : Int))) .strong) = _
 rw [if_neg (by omega)]
theorem z5I (t b : Nat) (ht : t < 2 ^ 190) (hb : b < 2 ^ 190) (b0 : 0 < b) (hf : 400 <= fu) : run G T fu (k + 2) 1 [.lst [.int (t : Int), .int (b : Int)]] = some (.v (.lst [.int ((t / Nat.gcd t b : Nat) : Int), .int ((b / Nat.gcd t b : Nat) : Int)]) true) := by
 rw [q0E (fd := q0W) rfl rfl]
 unfold q0W
 have g0 : 0 < Nat.gcd t b := Nat.gcd_pos_of_pos_right t b0
 have gl : Nat.gcd t b < 2 ^ 200 := Nat.lt_of_le_of_lt (Nat.gcd_le_right t b0) (Nat.lt_trans hb (by decide))
 have c1 := z4i (fu := fu) (k := k) 0 t ht hf
 have c2 := z4i (fu := fu) (k := k) t b hb hf
 rw [Nat.gcd_zero_left] at c1
 let L : DV := .lst [.int (t : Int), .int (b : Int)]
 have s1 : q1y (.one 2) (λ δ' => evSs G (run G T fu (k + 1)) fu [.set 1 false (.call 2 [.var 1, .bi .abs [.var 2]])] δ') [.int (t : Int), .int (b : Int)] [.val L, .val (.int ((0 : Nat) : Int)), .no] = some (.nx [.val L, .val (.int ((Nat.gcd t b : Nat) : Int)), .val (.int (b : Int))]) := by
  unfold q1y
  have a1 : evSs G (run G T fu (k + 1)) fu [.set 1 false (.call 2 [.var 1, .bi .abs [.var 2]])] [.val L, .val (.int ((0 : Nat) : Int)), .val (.int (t : Int))] = some (.nx [.val L, .val (.int (t : Int)), .val (.int (t : Int))]) :=
   q0g (q0h (q0k (fr := false) (q0b (q0a rfl) (q0b (q8R (q0a rfl)) q0e)) rfl c1) rfl) rfl
  have a2 : evSs G (run G T fu (k + 1)) fu [.set 1 false (.call 2 [.var 1, .bi .abs [.var 2]])] [.val L, .val (.int (t : Int)), .val (.int (b : Int))] = some (.nx [.val L, .val (.int ((Nat.gcd t b : Nat) : Int)), .val (.int (b : Int))]) :=
   q0g (q0h (q0k (fr := false) (q0b (q0a rfl) (q0b (q8R (q0a rfl)) q0e)) rfl c2) rfl) rfl
  show (match evSs G (run G T fu (k + 1)) fu [.set 1 false (.call 2 [.var 1, .bi .abs [.var 2]])] [.val L, .val (.int ((0 : Nat) : Int)), .val (.int (t : Int))] with | some (.nx δ2) => q1y (.one 2) (λ δ' => evSs G (run G T fu (k + 1)) fu [.set 1 false (.call 2 [.var 1, .bi .abs [.var 2]])] δ') [.int (b : Int)] δ2 | o => o) = _
  rw [a1]
  exact q7A (δ1 := [.val L, .val (.int (t : Int)), .val (.int (b : Int))]) rfl a2
 have cm := q7Q (G := G) (F := run G T fu (k + 1)) (δ := [.val L, .val (.int ((Nat.gcd t b : Nat) : Int)), .val (.int (b : Int))]) (elt := .bin .FloorDiv (.var 0) (.var 1)) (tg := .one 0) (it := .var 0) (fr := [none, some 1]) (f := λ d => match d with | .int x => .int (x / (Nat.gcd t b : Nat)) | d => d) (ds := [.int (t : Int), .int (b : Int)]) (cl := .strong) rfl (by decide) (show 2 <= mostLen by decide) (λ d hd => by
  have : ∃ x : Nat, d = .int (x : Int) := by
   rcases List.mem_cons.mp hd with q | q
   ·exact ⟨t, q⟩
   ·exact ⟨b, List.mem_singleton.mp q⟩
  obtain ⟨x, rfl⟩ := this
  exact ⟨[.val (.int (x : Int)), .val (.int ((Nat.gcd t b : Nat) : Int))], rfl, z4b (q0a rfl) (q0a rfl) g0 gl⟩)
 exact q1k (q0g (q0h (d := .int ((0 : Nat) : Int)) (cl := .strong) rfl rfl) (q4J (cl := .strong) rfl (.inl rfl) s1 (q1e (q0Z cm))))
noncomputable abbrev Mx := List (Nat × Pl)
noncomputable def pr (p : Nat × Pl) : DV := .tup [.int (p.1 : Int), dv p.2]
noncomputable def mxD (M : Mx) : DV := .lst (M.map pr)
noncomputable def tot (M : Mx) : Nat := (M.map (·.1)).sum
noncomputable def rgt (f : Nat -> Nat -> Int) (M : Mx) (i j : Nat) : Mx := M.filter λ p => vl p.2 i j == f i j
theorem q8r (p : Nat × Pl -> Bool) : ∀ M : Mx, tot (M.filter p) <= tot M
 | [] => Nat.le_refl _
 | a :: M => by
  have q := q8r p M
  unfold tot at q ⊢
  rw [List.filter_cons]
  split
  ·rw [List.map_cons, List.map_cons, List.sum_cons, List.sum_cons]; omega
  ·rw [List.map_cons, List.sum_cons]; omega
theorem q6C : ∀ l : List Nat, ints? (l.map λ (x : Nat) => DV.int (x : Int)) = some (l.map λ (x : Nat) => (x : Int))
 | [] => rfl
 | a :: l => by
  have q := q6C l
  show (ints? (l.map λ (x : Nat) => DV.int (x : Int))).map ((a : Int) :: ·) = _
  rw [q]
  rfl
theorem q9f : ∀ l : List Nat, (l.map λ (x : Nat) => (x : Int)).sum = ((l.sum : Nat) : Int)
 | [] => rfl
 | a :: l => by rw [List.map_cons, List.sum_cons, List.sum_cons, q9f l]; push_cast; rfl
theorem q7X {e : ME} {l : List Nat} {c : Cl} (h : evE G F e δ = some (.ok (.lst (l.map λ (x : Nat) => DV.int (x : Int))) c)) : evE G F (.bi .sum [e]) δ = some (.ok (.int ((l.sum : Nat) : Int)) .strong) := by
 show Rs.thn (evEs G F [e] δ) (λ l => sumD l) = _
 rw [q0b h q0e]
 show (ints? (l.map λ (x : Nat) => DV.int (x : Int))).map (λ ns => Re.ok (.int ns.sum) .strong) = _
 rw [q6C, Option.map_some, q9f]
theorem q7a {α : Type} {g : DV -> Option Rc} {h f : α -> DV} : ∀ {l : List α}, (∀ a ∈ l, g (h a) = some (.item (f a))) -> q0L g (l.map h) = some (l.map f)
 | [], _ => rfl
 | a :: l, q => by
  rw [List.map_cons]
  unfold q0L
  rw [q a (List.mem_cons_self ..)]
  dsimp only
  rw [q7a λ b hb => q b (List.mem_cons_of_mem _ hb)]
  rfl
theorem q6G {α : Type} {g : DV -> Option Rc} {h f : α -> DV} {p : α -> Bool} : ∀ {l : List α}, (∀ a ∈ l, g (h a) = some (if p a then .item (f a) else .skip)) -> q0L g (l.map h) = some ((l.filter p).map f)
 | [], _ => rfl
 | a :: l, q => by
  rw [List.map_cons, List.filter_cons]
  unfold q0L
  rw [q a (List.mem_cons_self ..)]
  have r := q6G λ b hb => q b (List.mem_cons_of_mem _ hb)
  cases p a with
  | true => rw [if_pos rfl, if_pos rfl]; dsimp only; rw [r]; rfl
  | false => rw [if_neg Bool.false_ne_true, if_neg Bool.false_ne_true]; exact r
theorem q4U {α : Type} {l : List α} {h f : α -> DV} {elt it : ME} {tg : Tg} {fr : List (Option Nat)} (hw : q1l (evE G F it δ) = some (.ok (l.map h) cl)) (hc : cl ≠ .weak) (hl : l.length <= 1000)
  (q : ∀ a ∈ l, ∃ δ' c, tg.bind (h a) (q0x fr δ) = some δ' /\ evE G F elt δ' = some (.ok (f a) c) /\ stro (f a) c = true) : evE G F (.comp elt tg it fr) δ = some (.ok (.lst (l.map f)) .fresh) := by
 have hl' : l.length <= mostLen := Nat.le_trans hl (by decide)
 show Ri.thn (q1l (evE G F it δ)) (λ ds c => if c = .weak \/ mostLen < ds.length then (if c = .weak /\ ds.length <= mostLen then q2w (q0L (λ d => (tg.bind d (q0x fr [])).bind λ δ' => Rc.of (evE G F elt δ')) ds) else none) else q1D (q0L (λ d => (tg.bind d (q0x fr δ)).bind λ δ' => Rc.of (evE G F elt δ')) ds)) = _
 rw [hw, q6l, if_neg (by rintro (z | z); exact hc z; rw [List.length_map] at z; omega), q7a (f := f) (λ a ha => ?_)]
 ·rfl
 ·obtain ⟨δ', c, e1, e2, e3⟩ := q a ha
  rw [e1, Option.bind_some, e2]
  show (if stro (f a) c then some (Rc.item (f a)) else none) = _
  rw [if_pos e3]
theorem q6J {α : Type} {l : List α} {h f : α -> DV} {p : α -> Bool} {elt it cd : ME} {tg : Tg} {fr : List (Option Nat)} (hw : q1l (evE G F it δ) = some (.ok (l.map h) cl)) (hc : cl ≠ .weak) (hl : l.length <= 1000)
  (q : ∀ a ∈ l, ∃ δ' c, tg.bind (h a) (q0x fr δ) = some δ' /\ tstD (evE G F cd δ') = some (.ok (p a)) /\ evE G F elt δ' = some (.ok (f a) c) /\ stro (f a) c = true) : evE G F (.compi elt tg it cd fr) δ = some (.ok (.lst ((l.filter p).map f)) .fresh) := by
 have hl' : l.length <= mostLen := Nat.le_trans hl (by decide)
 show Ri.thn (q1l (evE G F it δ)) (λ ds c => if c = .weak \/ mostLen < ds.length then none else q1D (q0L (λ d => (tg.bind d (q0x fr δ)).bind λ δ' => Rc.test (tstD (evE G F cd δ')) (Rc.of (evE G F elt δ'))) ds)) = _
 rw [hw, q6l, if_neg (by rintro (z | z); exact hc z; rw [List.length_map] at z; omega), q6G (f := f) (p := p) (λ a ha => ?_)]
 ·rfl
 ·obtain ⟨δ', c, e1, e2, e3, e4⟩ := q a ha
  rw [e1, Option.bind_some, e2, e3]
  cases p a with
  | false => rfl
  | true =>
   show (if stro (f a) c then some (Rc.item (f a)) else none) = _
   rw [if_pos e4]
   rfl
theorem q8M {M : Mx} (hM : M.length <= 1000) {it : ME} (h : q1l (evE G F it δ) = some (.ok (M.map pr) cl)) (hc : cl ≠ .weak) : evE G F (.bi .sum [.comp (.var 0) (.many [0, 1]) it [none, none]]) δ = some (.ok (.int ((tot M : Nat) : Int)) .strong) := by
 have cm := q4U (F := F) (δ := δ) (l := M) (h := pr) (f := λ p => .int (p.1 : Int)) (elt := .var 0) (tg := .many [0, 1]) (it := it) (fr := [none, none]) h hc hM λ p hp => ⟨[.val (.int (p.1 : Int)), .val (dv p.2)], .strong, rfl, q0a rfl, rfl⟩
 rw [show (M.map λ p => DV.int (p.1 : Int)) = (M.map (·.1)).map λ (x : Nat) => DV.int (x : Int) by rw [List.map_map]; rfl] at cm
 exact q7X cm
noncomputable def low (t b : Nat) : DV := .tup [.int ((t / Nat.gcd t b : Nat) : Int), .int ((b / Nat.gcd t b : Nat) : Int)]
theorem q4h {M : Mx} (hM : M.length <= 1000) (t : Nat) (ht : t < 2 ^ 190) (hb : tot M < 2 ^ 190) (b0 : 0 < tot M) (hf : 400 <= fu) : run G T fu (k + 3) 9 [mxD M, .int (t : Int)] = some (.v (low t (tot M)) false) := by
 rw [q0E (fd := q2y) rfl rfl]
 unfold q2y
 have s := q8M (F := run G T fu (k + 2)) (δ := q0D 2 [mxD M, .int (t : Int)]) hM (it := .var 0) (cl := .strong) rfl (by decide)
 have c := z5I (fu := fu) (k := k) t (tot M) ht hb b0 hf
 exact q1k (q1e (q0Z (cl := .strong) (q5d (c := .fresh) (q0k (fr := true) (l := [(.lst [.int (t : Int), .int ((tot M : Nat) : Int)], .fresh)]) (q0b (q6A (l := [(.int (t : Int), .strong), (.int ((tot M : Nat) : Int), .strong)]) (q0b (q0a rfl) (q0b s q0e)) (show 2 <= mostLen by decide) rfl) q0e) rfl c))))
end k61
end
section
namespace k61
open PySem L2
variable {fu k : Nat} {F : Nat -> List DV -> Option Ou} {δ : List Sv} {ds : List DV} {cl : Cl} {n m : Nat} {rows : List (List Int)}
noncomputable def lrC : ME := .cmp .Eq (.ix (.var 0) (.int 0)) (.str "ask")
noncomputable def lrB : List MS := [.set 3 false (.var 1), .iff (.cmp .Eq (.ix (.var 0) (.int 1)) (.str "column")) [.set 3 false (.var 2)] [], .set 0 false (.ix (.var 0) (.bin .Add (.int 3) (.bin .BitAnd (.bin .RShift (.ix (.var 0) (.int 2)) (.var 3)) (.int 1))))]
theorem z5G {a b : ME} {i j : Int} {cx cy : Cl} (ha : evE G F a δ = some (.ok (.int i) cx)) (hb : evE G F b δ = some (.ok (.int j) cy)) (hj : 0 <= j) : evE G F (.bin .RShift a b) δ = some (.ok (.int (i / 2 ^ j.toNat)) .strong) :=
 q2m ha hb (show (if 0 <= j then some (Re.ok (.int (i / 2 ^ j.toNat)) .strong) else none) = _ from if_pos hj)
theorem z3a {a b : ME} {o i : Nat} {cx cy : Cl} (ha : evE G F a δ = some (.ok (.int (o : Int)) cx)) (hb : evE G F b δ = some (.ok (.int (i : Int)) cy)) : evE G F (.bin .BitAnd (.bin .RShift a b) (.int 1)) δ = some (.ok (.int (if o.testBit i then 1 else 0)) .strong) :=
 q2m (cy := .strong) (z5G ha hb (Int.natCast_nonneg i)) q0c (z0C o i)
theorem q8K (s : Bool) (o : Nat) (a b : Pl) (i j : Nat) (c : Sv) (t : Bool) (ht : o.testBit (if s then i else j) = t) :
  evSs G F fu lrB [.val (dv (.ask s o a b)), .val (.int (i : Int)), .val (.int (j : Int)), c] = some (.nx [.val (dv (if t then b else a)), .val (.int (i : Int)), .val (.int (j : Int)), .val (.int ((if s then i else j : Nat) : Int))]) := by
 unfold lrB
 have fin : evE G F (.ix (.var 0) (.bin .Add (.int 3) (.bin .BitAnd (.bin .RShift (.ix (.var 0) (.int 2)) (.var 3)) (.int 1)))) [.val (dv (.ask s o a b)), .val (.int (i : Int)), .val (.int (j : Int)), .val (.int ((if s then i else j : Nat) : Int))] = some (.ok (dv (if t then b else a)) .strong) := by
  have q := z3a (F := F) (δ := [.val (dv (.ask s o a b)), .val (.int (i : Int)), .val (.int (j : Int)), .val (.int ((if s then i else j : Nat) : Int))]) (a := .ix (.var 0) (.int 2)) (b := .var 3) (o := o) (i := if s then i else j) (cx := .strong) (cy := .strong) (q0F (cx := .strong) (q0a rfl) q0c rfl) (q0a rfl)
  rw [ht] at q
  exact q0F (cx := .strong) (y := .int (3 + if t then 1 else 0)) (q0a rfl) (q1H q0c q) (by cases t <;> rfl)
 cases s with
 | true => exact q0g (q0h (cl := .strong) (q0a rfl) rfl) (q1E (q0z (cl := .strong) (q1P (q0F (cx := .strong) (q0a rfl) q0c rfl) q3o z3S)) (q0g (q0h fin rfl) rfl))
 | false => exact q0g (q0h (cl := .strong) (q0a rfl) rfl) (q6M (q0z (cl := .strong) (q1P (q0F (cx := .strong) (q0a rfl) q0c rfl) q3o z3h)) (q0g (q0h (cl := .strong) (q0a rfl) rfl) rfl) (q0g (q0h fin rfl) rfl))
theorem q8v (i j : Nat) : ∀ (p : Pl) (c : Sv) (n : Nat), ht p < n -> ∃ c' : Sv,
  q0Y (λ δ' => tstD (evE G F lrC δ')) (λ δ' => evSs G F fu lrB δ') n [.val (dv p), .val (.int (i : Int)), .val (.int (j : Int)), c] = some (.nx [.val (.tup [.str "end", .int (vl p i j)]), .val (.int (i : Int)), .val (.int (j : Int)), c'])
 | p, _, 0, h => absurd h (Nat.not_lt_zero _)
 | .fin v, c, n + 1, _ => ⟨c, q3d (q0z (cl := .strong) (q1P (q0F (q0a rfl) q0c rfl) q3o z0R))⟩
 | .ask s o a b, c, n + 1, h => by
  unfold ht at h
  have tt : tstD (evE G F lrC [.val (dv (.ask s o a b)), .val (.int (i : Int)), .val (.int (j : Int)), c]) = some (.ok true) := q0z (cl := .strong) (q1P (q0F (q0a rfl) q0c rfl) q3o q8X)
  cases t : o.testBit (if s then i else j) with
  | true =>
   obtain ⟨c', e⟩ := q8v i j b (.val (.int ((if s then i else j : Nat) : Int))) n (by omega)
   exact ⟨c', by rw [show vl (.ask s o a b) i j = vl b i j by rw [vl, t]; rfl]; exact q1T tt (q8K s o a b i j c true t) e⟩
  | false =>
   obtain ⟨c', e⟩ := q8v i j a (.val (.int ((if s then i else j : Nat) : Int))) n (by omega)
   exact ⟨c', by rw [show vl (.ask s o a b) i j = vl a i j by rw [vl, t]; rfl]; exact q1T tt (q8K s o a b i j c false t) e⟩
theorem q7u (p : Pl) (i j : Nat) (h : ht p < fu) : run G T fu (k + 1) 17 [dv p, .int (i : Int), .int (j : Int)] = some (.v (.int (vl p i j)) false) := by
 obtain ⟨c', e⟩ := q8v (fu := fu) (F := run G T fu k) i j p .no fu h
 rw [q0E (fd := q1q) rfl rfl]
 unfold q1q
 exact q1k (q9S e (q1e (q0Z (cl := .strong) (q0F (cx := .strong) (q0a rfl) q0c rfl))))
noncomputable def at2 (rows : List (List Int)) (i j : Nat) : Int := (rows.getD i []).getD j 0
theorem z1v (R : Rect n m rows) {i : Nat} (h : i < n) : (rows.getD i []).length = m := R.2 _ (q6T (by rw [R.1]; exact h))
theorem z3f {a b e : ME} {i j : Nat} {ci cj : Cl} (R : Rect n m rows) (ha : evE G F a δ = some (.ok (tT rows) .strong)) (hb : evE G F b δ = some (.ok (.int (i : Int)) ci)) (he : evE G F e δ = some (.ok (.int (j : Int)) cj)) (hi : i < n) (hj : j < m) : evE G F (.ix (.ix a b) e) δ = some (.ok (.int (at2 rows i j)) .strong) :=
 q0F (cx := .strong) (q0F (cx := .strong) ha hb (z0D (by rw [R.1]; exact hi))) he (z1D (by rw [z1v R hi]; exact hj))
theorem z0z {g : Nat} {M : Mx} {i j : Nat} (R : Rect n m rows) (hi : i < n) (hj : j < m) (hM : M.length <= 1000) (hr : ∀ p ∈ M, F g [dv p.2, .int (i : Int), .int (j : Int)] = some (.v (.int (vl p.2 i j)) false)) :
  evE G F (.bi .sum [.compi (.var 0) (.many [0, 1]) (.var 1) (.cmp .Eq (.call g [.var 1, .var 2, .var 3]) (.ix (.ix (.var 4) (.var 2)) (.var 3))) [none, none, some 2, some 3, some 0]]) (q0D 4 [tT rows, mxD M, .int (i : Int), .int (j : Int)]) = some (.ok (.int ((tot (rgt (at2 rows) M i j) : Nat) : Int)) .strong) := by
 have cm := q6J (F := F) (δ := q0D 4 [tT rows, mxD M, .int (i : Int), .int (j : Int)]) (l := M) (h := pr) (f := λ p => .int (p.1 : Int)) (p := λ p => vl p.2 i j == at2 rows i j) (elt := .var 0) (tg := .many [0, 1]) (it := .var 1) (cd := .cmp .Eq (.call g [.var 1, .var 2, .var 3]) (.ix (.ix (.var 4) (.var 2)) (.var 3))) (fr := [none, none, some 2, some 3, some 0]) (cl := .strong) rfl (by decide) hM λ p hp =>
  ⟨[.val (.int (p.1 : Int)), .val (dv p.2), .val (.int (i : Int)), .val (.int (j : Int)), .val (tT rows)], .strong, rfl, q0z (b_eq (q0k (fr := false) (l := [(dv p.2, .strong), (.int (i : Int), .strong), (.int (j : Int), .strong)]) rfl rfl (hr p hp)) (z3f R (q0a rfl) (q0a rfl) (q0a rfl) hi hj)), q0a rfl, rfl⟩
 rw [show ((M.filter λ p => vl p.2 i j == at2 rows i j).map λ p => DV.int (p.1 : Int)) = ((rgt (at2 rows) M i j).map (·.1)).map λ (x : Nat) => DV.int (x : Int) by rw [List.map_map]; rfl] at cm
 exact q7X cm
noncomputable def Low (fu : Nat) (M : Mx) : Prop := ∀ p ∈ M, ht p.2 <= 100
theorem q3Q {M : Mx} {i j : Nat} (R : Rect n m rows) (hi : i < n) (hj : j < m) (hM : M.length <= 1000) (hh : Low fu M) (hf : 400 <= fu) : run G T fu (k + 3) 8 [tT rows, mxD M, .int (i : Int), .int (j : Int)] = some (.v (.int ((tot (rgt (at2 rows) M i j) : Nat) : Int)) false) := by
 rw [q0E (fd := q2i) rfl rfl]
 unfold q2i
 exact q1k (q1e (q0Z (cl := .strong) (z0z R hi hj hM λ p hp => q7R p.2 i j (by have := hh p hp; omega) (by have := hh p hp; omega))))
theorem z3u {M : Mx} {i j : Nat} (R : Rect n m rows) (hi : i < n) (hj : j < m) (hM : M.length <= 1000) (hh : Low fu M) (hf : 400 <= fu) : run G T fu (k + 2) 20 [tT rows, mxD M, .int (i : Int), .int (j : Int)] = some (.v (.int ((tot (rgt (at2 rows) M i j) : Nat) : Int)) false) := by
 rw [q0E (fd := q2z) rfl rfl]
 unfold q2z
 exact q1k (q1e (q0Z (cl := .strong) (z0z R hi hj hM λ p hp => q7u p.2 i j (by have := hh p hp; omega))))
theorem q4E {x a b : Int} : run G T fu (k + 1) 0 [.int x, .int a, .int b] = some (.v (.bl (decide (a <= x) && decide (x <= b))) false) := by
 rw [q0E (fd := q2v) rfl rfl]
 unfold q2v
 refine q1k (q1e (q0Z (cl := .strong) (q8V (cx := .strong) rfl (q8V (cx := .strong) rfl (z2l ?_)))))
 unfold evE
 show (match (some (decide (a <= x)) : Option Bool) with
  | none => none
  | some false => some (Re.ok (.bl false) .strong)
  | some true => Re.thn (evE G (run G T fu k) (.var 2) (q0D 3 [.int x, .int a, .int b])) λ z _ => (cmpD .LtE (.int x) z).map λ k => Re.ok (.bl k) .strong) = _
 cases decide (a <= x) with
 | false => rfl
 | true => rfl
section
variable {G : Gs}
theorem q7Z {m : MS} {r : List MS} {c : Str} {δ' : List Sv} (h : evS G F fu m δ = some (.ex c δ')) : evSs G F fu (m :: r) δ = some (.ex c δ') := by
 unfold evSs
 rw [h]
theorem z1o {r : List MS} {c : Str} {δ' : List Sv} (h : evSs G F fu r δ = some (.ex c δ')) : Ou.of (evSs G F fu r δ) = some (.x c) := by rw [h]; rfl
theorem z4c {c : ME} {a b r : List MS} {x : Str} {δ' : List Sv} (hc : tstD (evE G F c δ) = some (.ok true)) (h : evSs G F fu a δ = some (.ex x δ')) : evSs G F fu (.iff c a b :: r) δ = some (.ex x δ') := q7Z ((q9v hc).trans h)
theorem q4X {f : Nat} {es : List ME} {l : List (DV × Cl)} {c : Str} (ha : evEs G F es δ = some (.ok l)) (h : F f (l.map (·.1)) = some (.x c)) : evE G F (.call f es) δ = some (.ex c) := by
 show Rs.thn (evEs G F es δ) (λ l => q2A F f l) = _
 rw [ha]
 show q2A F f l = _
 unfold q2A
 rw [h]
theorem q6f {e : ME} {c : Str} (h : evE G F e δ = some (.ex c)) : evS G F fu (.exp e) δ = some (.ex c δ) := by
 show Re.thnS δ (evE G F e δ) (λ _ _ => some (.nx δ)) = _
 rw [h]; rfl
theorem z4j {c : Str} {e : ME} {d : DV} (hc : (G.cls.lookup c).isSome = true) (h : evE G F e δ = some (.ok d cl)) : evS G F fu (.rse c e) δ = some (.ex c δ) := by
 show (if (G.cls.lookup c).isSome = true then Re.thnS δ (evE G F e δ) (λ _ _ => some (.ex c δ)) else none) = _
 rw [if_pos hc, h]
 rfl
end
theorem q5Q {d : DV} {s : Nat} {b : Bool} (h : run G T fu (k + 1) 0 [d, .int 0, .int ((s : Int) - 1)] = some (.v (.bl b) false)) : run G T fu (k + 2) 3 [d, .int (s : Int)] = (if b then some (.v .non false) else some (.x "NoCard")) := by
 rw [q0E (fd := q1L) rfl rfl]
 unfold q1L
 have c := q4u (q0k (G := G) (F := run G T fu (k + 1)) (δ := q0D 2 [d, .int (s : Int)]) (f := 0) (es := [.var 0, .int 0, .bin .Sub (.var 1) (.int 1)]) (q0b (q0a rfl) (q0b q0c (q0b (q7w (q0a rfl) q0c) q0e))) rfl h)
 cases b with
 | true => rw [if_pos rfl]; exact z5C (q1E (q0z c) rfl)
 | false => rw [if_neg Bool.false_ne_true]; exact z1o (z4c (q0z c) (q7Z (z4j (d := .str "a card is an int from 0 on, less than the number of its side's cards") (cl := .strong) rfl rfl)))
theorem q4r {i s : Nat} (h : i < s) : run G T fu (k + 2) 3 [.int (i : Int), .int (s : Int)] = some (.v .non false) := by
 have q := q5Q (fu := fu) (k := k) (q4E (fu := fu) (k := k) (x := (i : Int)) (a := 0) (b := (s : Int) - 1))
 rw [decide_eq_true (by omega), decide_eq_true (by omega)] at q
 exact q
theorem lenT {e : ME} (R : Rect n m rows) (h : evE G F e δ = some (.ok (tT rows) .strong)) : evE G F (.bi .len [e]) δ = some (.ok (.int (n : Int)) .strong) := by
 have q := q9r (ds := rows.map λ r => .tup (iD r)) h
 rw [List.length_map, R.1] at q
 exact q
theorem q7c {e : ME} (R : Rect n m rows) (hn : 0 < n) (h : evE G F e δ = some (.ok (tT rows) .strong)) : evE G F (.bi .len [.ix e (.int 0)]) δ = some (.ok (.int (m : Int)) .strong) := by
 have r0 : 0 < rows.length := by rw [R.1]; exact hn
 have t := q9r (q0F (cx := .strong) h (q0c (i := ((0 : Nat) : Int))) (z0D (rows := rows) r0))
 rw [show (iD (rows.getD 0 [])).length = m by unfold iD; rw [List.length_map]; exact R.2 _ (q6T r0)] at t
 exact t
structure Mix (fu : Nat) (M : Mx) : Prop where
 len : M.length <= 30
 low : Low fu M
 pos : 0 < tot M
 top : tot M < 2 ^ 190
theorem z2B {M : Mx} {i j : Nat} (R : Rect n m rows) (hi : i < n) (hj : j < m) (hm : Mix fu M) (hf : 400 <= fu) : run G T fu (k + 4) 6 [tT rows, mxD M, .int (i : Int), .int (j : Int)] = some (.v (low (tot (rgt (at2 rows) M i j)) (tot M)) false) := by
 have hM : M.length <= 1000 := by have := hm.len; omega
 rw [q0E (fd := q0S) rfl rfl]
 unfold q0S
 have sh := q4h (fu := fu) (k := k) hM (tot (rgt (at2 rows) M i j)) (Nat.lt_of_le_of_lt (q8r _ M) hm.top) hm.top hm.pos hf
 exact q1k (q0g (q8H (cl := .strong) (q0k (fr := false) (q0b (q0a rfl) (q0b (lenT R (q0a rfl)) q0e)) rfl (q4r (k := k + 1) hi))) (q0g (q8H (cl := .strong) (q0k (fr := false) (q0b (q0a rfl) (q0b (q7c R (by omega) (q0a rfl)) q0e)) rfl (q4r (k := k + 1) hj)))
  (q1e (q0Z (cl := .strong) (q0k (fr := false) (q0b (q0a rfl) (q0b (q0k (fr := false) (l := [(tT rows, .strong), (mxD M, .strong), (.int (i : Int), .strong), (.int (j : Int), .strong)]) rfl rfl (q3Q R hi hj hM hm.low hf)) q0e)) rfl sh)))))
end k61
end
section
namespace k61
open PySem L2
variable {fu k : Nat} {F : Nat -> List DV -> Option Ou} {δ : List Sv} {ds : List DV} {cl : Cl} {n m : Nat} {rows : List (List Int)}
section
variable {G : Gs} {a b : ME} {r : List ME} {cx : Cl} {o : Option Re}
theorem or_f (ha : evE G F a δ = some (.ok (.bl false) cx)) (hb : evE G F (.or (b :: r)) δ = o) : evE G F (.or (a :: b :: r)) δ = o := by
 unfold evE at hb ⊢
 unfold evOr
 rw [ha]
 exact hb
theorem or_1 (ha : evE G F a δ = o) : evE G F (.or [a]) δ = o := by
 unfold evE evOr
 exact ha
end
theorem z0n {i j : Nat} {a b : ME} {x y : DV} (ha : evE G F a δ = some (.ok x .strong)) (hb : evE G F b δ = some (.ok y .strong)) (hij : i ≠ j) : evS G F fu (.par [i, j] [a, b]) δ = some (.nx ((δ.set i (.val x)).set j (.val y))) := by
 show Rs.thnS δ (evEs G F [a, b] δ) (λ l => parD δ [i, j] l) = _
 rw [q0b ha (q0b hb q0e)]
 show (if i ≠ j /\ stro x .strong = true /\ stro y .strong = true then _ else none) = _
 rw [if_pos ⟨hij, rfl, rfl⟩]
noncomputable def shC : ME := .cmp .Gt (.var 4) (.int 0)
noncomputable def shB : List MS := [.par [3, 4] [.var 4, .bin .Mod (.var 3) (.var 4)]]
theorem sh_f {x y z : Sv} {g : Nat} : tstD (evE G F shC [x, y, z, .val (.int (g : Int)), .val (.int ((0 : Nat) : Int))]) = some (.ok false) := q0z (cl := .strong) (q1P (q0a rfl) q0c rfl)
theorem sh_t {x y z : Sv} {g l : Nat} (h : 0 < l) : tstD (evE G F shC [x, y, z, .val (.int (g : Int)), .val (.int (l : Int))]) = some (.ok true) := by
 have q : evE G F shC [x, y, z, .val (.int (g : Int)), .val (.int (l : Int))] = some (.ok (.bl (decide ((0 : Int) < (l : Int)))) .strong) := b_gt (q0a rfl) q0c
 rw [decide_eq_true (show (0 : Int) < (l : Int) by omega)] at q
 exact q0z q
theorem sh_s {x y z : Sv} {g l : Nat} (h : 0 < l) : evSs G F fu shB [x, y, z, .val (.int (g : Int)), .val (.int (l : Int))] = some (.nx [x, y, z, .val (.int (l : Int)), .val (.int ((g % l : Nat) : Int))]) :=
 q0g (z0n (q0a rfl) (z0B (q0a rfl) (q0a rfl) h) (by decide)) rfl
theorem z3D (x y z : Sv) : ∀ (m g l N : Nat), l < 2 ^ m -> 2 * m + 1 <= N -> q0Y (λ δ' => tstD (evE G F shC δ')) (λ δ' => evSs G F fu shB δ') N [x, y, z, .val (.int (g : Int)), .val (.int (l : Int))] = some (.nx [x, y, z, .val (.int ((Nat.gcd g l : Nat) : Int)), .val (.int ((0 : Nat) : Int))])
 | m, g, 0, N + 1, _, _ => by rw [Nat.gcd_zero_right]; exact q3d sh_f
 | 0, g, l + 1, _, h, _ => by simp at h
 | m + 1, g, l + 1, N + 2, h, hN => by
  rw [Nat.gcd_comm, Nat.gcd_rec]
  by_cases hr : g % (l + 1) = 0
  ·rw [hr, Nat.gcd_zero_left]
   have st := sh_s (F := F) (fu := fu) (x := x) (y := y) (z := z) (g := g) (l := l + 1) (by omega)
   rw [hr] at st
   exact q1T (sh_t (by omega)) st (q3d sh_f)
  ·have hr0 : 0 < g % (l + 1) := by omega
   have hlt : g % (l + 1) < l + 1 := Nat.mod_lt g (by omega)
   have hh := q6w hr0 hlt
   have hb : (l + 1) % (g % (l + 1)) < 2 ^ m := by rw [Nat.pow_succ] at h; omega
   have e := z3D x y z m (g % (l + 1)) ((l + 1) % (g % (l + 1))) N hb (by omega)
   rw [Nat.gcd_comm, ← Nat.gcd_rec] at e
   exact q1T (sh_t (by omega)) (sh_s (by omega)) (q1T (sh_t hr0) (sh_s hr0) e)
theorem z0O (x : Int) : run G T fu (k + 1) 10 [.int x] = some (.v (.bl true) false) := by
 rw [q0E (fd := q2x) rfl rfl]
 unfold q2x
 exact q1k (q1e rfl)
theorem q8A {a b : Nat} (ha : a < 2 ^ 190) (hb : b < 2 ^ 190) : q2l (a : Int) (b : Int) = true := by
 unfold q2l
 rw [Int.natAbs_natCast, Int.natAbs_natCast, decide_eq_true (p := a < 2 ^ 200) (Nat.lt_trans ha (by decide)), decide_eq_true (p := b < 2 ^ 200) (Nat.lt_trans hb (by decide))]
 exact Bool.or_true _
theorem z1J {x y t b : Nat} (hx : x < 2 ^ 190) (hy : y < 2 ^ 190) (ht : t < 2 ^ 190) (hb : b < 2 ^ 190) (y0 : 0 < y) (hg : Nat.gcd x y = 1) (hq : x * b = t * y) (hf : 400 <= fu) : run G T fu (k + 2) 21 [.tup [.int (x : Int), .int (y : Int)], .int (t : Int), .int (b : Int)] = some (.v (.bl true) false) := by
 rw [q0E (fd := q1O) rfl rfl]
 unfold q1O
 have w := z3D (fu := fu) (F := run G T fu (k + 1)) (.val (.tup [.int (x : Int), .int (y : Int)])) (.val (.int (t : Int))) (.val (.int (b : Int))) 190 y x fu hx (by omega)
 rw [Nat.gcd_comm, hg] at w
 have c1 : ∀ (δ : List Sv) (e : ME) (z : Int) (cc : Cl), evE G (run G T fu (k + 1)) e δ = some (.ok (.int z) .strong) -> evE G (run G T fu (k + 1)) (.not (.call 10 [e])) δ = some (.ok (.bl false) .strong) := λ δ e z cc h =>
  q4u (x := true) (q0k (fr := false) (q0b h q0e) rfl (z0O z))
 have o1 : evE G (run G T fu (k + 1)) (.or [.not (.isi (.var 0) ["tuple"]), .cmp .NotEq (.bi .len [.var 0]) (.int 2), .not (.call 10 [.ix (.var 0) (.int 0)]), .not (.call 10 [.ix (.var 0) (.int 1)])]) (q0D 5 [.tup [.int (x : Int), .int (y : Int)], .int (t : Int), .int (b : Int)]) = some (.ok (.bl false) .strong) :=
  or_f (cx := .strong) rfl (or_f (cx := .strong) rfl (or_f (c1 _ _ (x : Int) .strong (q0F (cx := .strong) (q0a rfl) q0c rfl)) (or_1 (c1 _ _ (y : Int) .strong (q0F (cx := .strong) (q0a rfl) q0c rfl)))))
 have a1 : evE G (run G T fu (k + 1)) (.cmp .Gt (.ix (.var 0) (.int 1)) (.int 0)) [.val (.tup [.int (x : Int), .int (y : Int)]), .val (.int (t : Int)), .val (.int (b : Int)), .val (.int ((1 : Nat) : Int)), .val (.int ((0 : Nat) : Int))] = some (.ok (.bl true) .strong) := by
  have q := b_gt (F := run G T fu (k + 1)) (δ := [.val (.tup [.int (x : Int), .int (y : Int)]), .val (.int (t : Int)), .val (.int (b : Int)), .val (.int ((1 : Nat) : Int)), .val (.int ((0 : Nat) : Int))]) (a := .ix (.var 0) (.int 1)) (i := (y : Int)) (G := G) (cx := .strong) (q0F (cx := .strong) (q0a rfl) q0c rfl) (q0c (i := 0))
  rw [decide_eq_true (show (0 : Int) < (y : Int) by omega)] at q
  exact q
 have a3 : evE G (run G T fu (k + 1)) (.cmp .Eq (.bin .Mult (.ix (.var 0) (.int 0)) (.var 2)) (.bin .Mult (.var 1) (.ix (.var 0) (.int 1)))) [.val (.tup [.int (x : Int), .int (y : Int)]), .val (.int (t : Int)), .val (.int (b : Int)), .val (.int ((1 : Nat) : Int)), .val (.int ((0 : Nat) : Int))] = some (.ok (.bl true) .strong) := by
  have q := b_eq (G := G) (F := run G T fu (k + 1)) (δ := [.val (.tup [.int (x : Int), .int (y : Int)]), .val (.int (t : Int)), .val (.int (b : Int)), .val (.int ((1 : Nat) : Int)), .val (.int ((0 : Nat) : Int))]) (q3b (a := .ix (.var 0) (.int 0)) (b := .var 2) (i := (x : Int)) (j := (b : Int)) (cx := .strong) (cy := .strong) (q0F (cx := .strong) (q0a rfl) q0c rfl) (q0a rfl) (q8A hx hb)) (q3b (a := .var 1) (b := .ix (.var 0) (.int 1)) (i := (t : Int)) (j := (y : Int)) (cx := .strong) (cy := .strong) (q0a rfl) (q0F (cx := .strong) (q0a rfl) q0c rfl) (q8A ht hy))
  rw [show ((x : Int) * (b : Int) == (t : Int) * (y : Int)) = true by rw [beq_iff_eq]; exact_mod_cast hq] at q
  exact q
 exact q1k (q1E (q0z o1) (q0g (q0h (cl := .strong) (q0F (cx := .strong) (q0a rfl) q0c rfl) rfl) (q0g (q0h (cl := .strong) (q0F (cx := .strong) (q0a rfl) q0c rfl) rfl) (q9S w (q1e (q0Z (cl := .strong) (q8V a1 (q8V (cx := .strong) rfl (z2l a3)))))))))
theorem q3U {t b : Nat} (ht : t < 2 ^ 190) (hb : b < 2 ^ 190) (b0 : 0 < b) (hf : 400 <= fu) : run G T fu (k + 2) 21 [low t b, .int (t : Int), .int (b : Int)] = some (.v (.bl true) false) := by
 have g0 : 0 < Nat.gcd t b := Nat.gcd_pos_of_pos_right t b0
 have e1 : Nat.gcd t b * (t / Nat.gcd t b) = t := Nat.mul_div_cancel' (Nat.gcd_dvd_left t b)
 have e2 : Nat.gcd t b * (b / Nat.gcd t b) = b := Nat.mul_div_cancel' (Nat.gcd_dvd_right t b)
 refine z1J (Nat.lt_of_le_of_lt (Nat.div_le_self _ _) ht) (Nat.lt_of_le_of_lt (Nat.div_le_self _ _) hb) ht hb (Nat.div_pos (Nat.gcd_le_right t b0) g0) ?_ ?_ hf
 ·refine Nat.eq_of_mul_eq_mul_left g0 ?_
  rw [← Nat.gcd_mul_left, e1, e2, Nat.mul_one]
 ·generalize Nat.gcd t b = g at e1 e2
  generalize t / g = x at e1
  generalize b / g = y at e2
  rw [← e1, ← e2, Nat.mul_left_comm, Nat.mul_assoc]
noncomputable abbrev Tr := Int × Int × Int
noncomputable def trow (f : Nat -> Nat -> Nat) (m i : Nat) : List Tr := (List.range m).map λ (j : Nat) => ((f i j : Int), (i : Int), (j : Int))
noncomputable def tall (f : Nat -> Nat -> Nat) (m n : Nat) : List Tr := (List.range n).flatMap (trow f m)
theorem q4b (f : Nat -> Nat -> Nat) (m n : Nat) : tall f m (n + 1) = tall f m n ++ trow f m n := by
 unfold tall
 rw [List.range_succ, List.flatMap_append]
 congr 1
 rw [List.flatMap_cons, List.flatMap_nil, List.append_nil]
theorem q4Z (f : Nat -> Nat -> Nat) (m : Nat) : ∀ n, (tall f m n).length = n * m
 | 0 => by rw [Nat.zero_mul]; rfl
 | n + 1 => by rw [q4b, List.length_append, q4Z f m n, Nat.add_mul, Nat.one_mul]; congr 1; unfold trow; rw [List.length_map, List.length_range]
theorem q9T {f : Nat -> Nat -> Nat} {m n : Nat} {p : Tr} (h : p ∈ tall f m n) : ∃ i j, i < n /\ j < m /\ p = ((f i j : Int), (i : Int), (j : Int)) := by
 obtain ⟨i, hi, h2⟩ := List.mem_flatMap.mp h
 obtain ⟨j, hj, rfl⟩ := List.mem_map.mp h2
 exact ⟨i, j, List.mem_range.mp hi, List.mem_range.mp hj, rfl⟩
theorem q5k : ∀ l : List Tr, trips? (l.map trD) = some l
 | [] => rfl
 | p :: l => by
  have q := q5k l
  show (trips? (l.map trD)).map ((p.1, p.2.1, p.2.2) :: ·) = _
  rw [q]
  rfl
theorem q9n : ∀ (l : List Tr) (p : Tr), q3k p l ∈ p :: l
 | [], p => List.mem_singleton.mpr rfl
 | q :: l, p => by
  unfold q3k
  have h := q9n l (if ltT q p then q else p)
  rcases List.mem_cons.mp h with h | h
  ·split at h
   ·rename_i z; rw [if_pos z, h]; exact List.mem_cons_of_mem _ (List.mem_cons_self ..)
   ·rename_i z; rw [if_neg z, h]; exact List.mem_cons_self ..
  ·exact List.mem_cons_of_mem _ (List.mem_cons_of_mem _ h)
noncomputable def lst3 (l : List Tr) : Tr := match l with | [] => (0, 0, 0) | p :: r => q3k p r
theorem q8m {e : ME} {l : List Tr} {c : Cl} (h0 : l ≠ []) (h : evE G F e δ = some (.ok (.lst (l.map trD)) c)) : evE G F (.bi .min [e]) δ = some (.ok (trD (lst3 l)) c.item) := by
 rw [z0U (q0b h q0e)]
 cases l with
 | nil => exact absurd rfl h0
 | cons p r =>
  show (match trips? ((p :: r).map trD) with | some (n :: r) => some (Re.ok (trD (q3k n r)) c.item) | _ => none) = _
  rw [q5k]
  rfl
theorem z0x {g a i : Nat} {f : Nat -> Nat -> Nat} {tb mx : DV} {fr : List (Option Nat)} (hm : m <= 8) (hi : q0x fr δ = [.no, .val tb, .val mx, .val (.int (i : Int))]) (hl : evE G F (.bi .len [.ix (.var a) (.int 0)]) δ = some (.ok (.int (m : Int)) .strong))
  (hr : ∀ j < m, F g [tb, mx, .int (i : Int), .int (j : Int)] = some (.v (.int ((f i j : Nat) : Int)) false)) :
  evE G F (.comp (.tup [.call g [.var 1, .var 2, .var 3, .var 0], .var 3, .var 0]) (.one 0) (.rng [.bi .len [.ix (.var a) (.int 0)]]) fr) δ = some (.ok (.lst ((trow f m i).map trD)) .fresh) := by
 have q := q4U (F := F) (δ := δ) (l := List.range m) (h := λ (j : Nat) => DV.int (0 + (j : Int))) (f := λ (j : Nat) => trD ((f i j : Int), (i : Int), (j : Int))) (elt := .tup [.call g [.var 1, .var 2, .var 3, .var 0], .var 3, .var 0]) (tg := .one 0) (it := .rng [.bi .len [.ix (.var a) (.int 0)]]) (fr := fr) (cl := .fresh) (q3Z hl (by omega)) (by decide) (by rw [List.length_range]; omega) λ j hj => by
  have hj' := List.mem_range.mp hj
  rw [hi, show (0 : Int) + (j : Int) = (j : Int) by omega]
  exact ⟨[.val (.int (j : Int)), .val tb, .val mx, .val (.int (i : Int))], .strong, rfl, q5h (q0b (q0k (fr := false) (q0b (q0a rfl) (q0b (q0a rfl) (q0b (q0a rfl) (q0b (q0a rfl) q0e)))) rfl (hr j hj')) (q0b (q0a rfl) (q0b (q0a rfl) q0e))) (show 3 <= mostLen by decide) rfl, rfl⟩
 unfold trow
 rw [List.map_map]
 exact q
noncomputable def rf (rows : List (List Int)) (M : Mx) (i j : Nat) : Nat := tot (rgt (at2 rows) M i j)
theorem q9i {M : Mx} (hm : Mix fu M) (i j : Nat) : rf rows M i j < 2 ^ 190 := Nat.lt_of_le_of_lt (q8r _ M) hm.top
theorem z1K {i : Nat} {e : ME} {ds ys : List DV} (h0 : δ[i]? = some (.own (.lst ds))) (h : evE G F e δ = some (.ok (.lst ys) .fresh)) (hl : ds.length + ys.length <= 1000) : evS G F fu (.ext i e) δ = some (.nx (δ.set i (.own (.lst (ds ++ ys))))) := by
 have hl' : ds.length + ys.length <= mostLen := Nat.le_trans hl (by decide)
 unfold evS
 rw [h0]
 show Re.thnS δ (evE G F e δ) _ = _
 rw [h]
 show (if Cl.fresh = .strong \/ Cl.fresh = .fresh then (if ds.length + ys.length <= mostLen then some (Out.nx (δ.set i (.own (.lst (ds ++ ys))))) else none) else none) = _
 rw [if_pos (.inr rfl), if_pos hl']
theorem z4D {a b : ME} {x y : List DV} {cx cy : Cl} (ha : evE G F a δ = some (.ok (.lst x) cx)) (hb : evE G F b δ = some (.ok (.lst y) cy)) (h : x.length + y.length <= 1000) : evE G F (.bin .Add a b) δ = some (.ok (.lst (x ++ y)) (Cl.anew cx cy)) :=
 q2m ha hb (if_pos (Nat.le_trans h (by decide)))
theorem z0E {f : Nat -> Nat -> Nat} {j : Nat} (hm : m <= 8) (hn : n <= 8) (hj : j < n) : ((tall f m j).map trD).length + ((trow f m j).map trD).length <= 1000 := by
 rw [List.length_map, List.length_map, q4Z]
 have : j * m <= 8 * 8 := Nat.mul_le_mul (by omega) hm
 unfold trow
 rw [List.length_map, List.length_range]
 omega
theorem q6p {f : Nat -> Nat -> Nat} (hn : 0 < n) (hm : 0 < m) : tall f m n ≠ [] := by
 intro h
 have := q4Z f m n
 rw [h] at this
 have := Nat.mul_pos hn hm
 simp at *
 omega
theorem z0f {l : List Tr} (h : l ≠ []) : lst3 l ∈ l := by
 cases l with
 | nil => exact absurd rfl h
 | cons p r => exact q9n r p
theorem z4S {x y : List DV} (hx : x ≠ []) (hl : x.length + y.length <= 1000) : binD .Add (.tup x) (.tup y) .strong .strong = some (.ok (.tup (x ++ y)) .strong) := by
 show (if x.length + y.length <= mostLen /\ x ≠ [] then some (Re.ok (.tup (x ++ y)) .strong) else none) = _
 exact if_pos ⟨Nat.le_trans hl (by decide), hx⟩
noncomputable def wrst (t b i j : Nat) : DV := .tup [.int ((t / Nat.gcd t b : Nat) : Int), .int ((b / Nat.gcd t b : Nat) : Int), .int (i : Int), .int (j : Int)]
theorem q7T {M : Mx} (R : Rect n m rows) (hn : 0 < n) (hm : 0 < m) (hn8 : n <= 8) (hm8 : m <= 8) (hM : Mix fu M) (hf : 400 <= fu) : ∃ i j, i < n /\ j < m /\ lst3 (tall (rf rows M) m n) = ((rf rows M i j : Int), (i : Int), (j : Int)) /\ run G T fu (k + 4) 7 [tT rows, mxD M] = some (.v (wrst (rf rows M i j) (tot M) i j) false) := by
 obtain ⟨i, j, hi, hj, e⟩ := q9T (z0f (q6p (f := rf rows M) hn hm))
 refine ⟨i, j, hi, hj, e, ?_⟩
 have h1000 : M.length <= 1000 := by have := hM.len; omega
 rw [q0E (fd := q1z) rfl rfl]
 unfold q1z
 have lp := q0Q (i := 3) (I := λ j δ => ∃ z : Sv, δ = [.val (tT rows), .val (mxD M), .own (.lst ((tall (rf rows M) m j).map trD)), z, .no])
  (body := λ δ' => evSs G (run G T fu (k + 3)) fu [.ext 2 (.comp (.tup [.call 8 [.var 1, .var 2, .var 3, .var 0], .var 3, .var 0]) (.one 0) (.rng [.bi .len [.ix (.var 0) (.int 0)]]) [none, some 0, some 1, some 3])] δ') n 0 (δ := [.val (tT rows), .val (mxD M), .own (.lst []), .no, .no])
  (λ j hj δ I => by
   obtain ⟨z, rfl⟩ := I
   rw [show (0 : Int) + (j : Int) = j by omega]
   refine ⟨_, q0g (z1K rfl (z0x (m := m) (i := j) (a := 0) (f := rf rows M) hm8 rfl (q7c R hn (q0a rfl)) (λ j' hj' => q3Q (k := k) R hj hj' h1000 hM.low hf)) (z0E hm8 hn8 hj)) rfl, .val (.int (j : Int)), ?_⟩
   rw [q4b, List.map_append]
   rfl) ⟨.no, rfl⟩
 refine q1k (q0g (q2S rfl) (q6E (q3Z (n := n) (lenT R (q0a rfl)) (by omega)) (.inr rfl) lp λ δ' q => ?_))
 obtain ⟨z, rfl⟩ := q
 have mn := q8m (F := run G T fu (k + 3)) (q6p (f := rf rows M) hn hm) (q3P (G := G) (n := 2) (δ := [.val (tT rows), .val (mxD M), .own (.lst ((tall (rf rows M) m n).map trD)), z, .no]) rfl)
 rw [e] at mn
 have sh := q4h (fu := fu) (k := k) h1000 (rf rows M i j) (q9i hM i j) hM.top hM.pos hf
 have fin := q2m (G := G) (F := run G T fu (k + 3)) (δ := [.val (tT rows), .val (mxD M), .own (.lst ((tall (rf rows M) m n).map trD)), z, .val (trD ((rf rows M i j : Int), (i : Int), (j : Int)))]) (op := .Add) (a := .call 9 [.var 1, .ix (.var 4) (.int 0)]) (b := .tup [.ix (.var 4) (.int 1), .ix (.var 4) (.int 2)]) (y := .tup [.int (i : Int), .int (j : Int)]) (cy := .strong) (r := some (.ok (wrst (rf rows M i j) (tot M) i j) .strong)) (q0k (fr := false) (l := [(mxD M, .strong), (.int (rf rows M i j : Int), .strong)]) rfl rfl sh) rfl (z4S (by intro z; cases z) (show 4 <= 1000 by decide))
 exact q0g (q0h (cl := .strong) mn rfl) (q1e (q0Z (cl := .strong) fin))
end k61
end
section
namespace k61
open PySem L2
variable {fu k : Nat} {F : Nat -> List DV -> Option Ou} {δ : List Sv} {ds : List DV} {cl : Cl} {n m : Nat} {rows : List (List Int)}
theorem q4g {xs : List Int} {i : Int} (h0 : 0 <= i) (h : i < xs.length) : ∃ v, ∀ {F : Nat -> List DV -> Option Ou} {δ : List Sv} {e : ME}, evE G F e δ = some (.ok (.lst (xs.map DV.int)) .strong) -> evE G F (.ix e (.int i)) δ = some (.ok (.int v) .strong) := by
 obtain ⟨v, hv⟩ := z0G (l := xs) h0 h
 exact ⟨v, λ he => q0F (cx := .strong) he q0c hv⟩
theorem top4 (x : Int) : ∃ tp : Int, 0 < tp /\ ixD (.lst [.int 2, .int 3, .int 10, .int 2]) (.int (x % 4)) = some (.int tp) := by
 have : x % 4 = 0 \/ x % 4 = 1 \/ x % 4 = 2 \/ x % 4 = 3 := by omega
 rcases this with h | h | h | h <;> rw [h]
 ·exact ⟨2, by decide, rfl⟩
 ·exact ⟨3, by decide, rfl⟩
 ·exact ⟨10, by decide, rfl⟩
 ·exact ⟨2, by decide, rfl⟩
noncomputable abbrev Sc (ns xs : List Int) (n m : Nat) (tp : Int) (x y : Sv) : List Sv := [.val (.scr ns), .val (.int 3), .val (.int 8), .val (.lst (xs.map DV.int)), .val (.int n), .val (.int m), .val (.int tp), x, y]
theorem z1Y (ns : List Int) (hns : ns.length <= 63) : ∃ (n m : Nat) (rows : List (List Int)), 0 < n /\ n <= 8 /\ 0 < m /\ m <= 8 /\ Rect n m rows /\ run G T fu (k + 2) 13 [.scr ns, .int 3, .int 8] = some (.v (tT rows) false) := by
 obtain ⟨v0, c0⟩ := q6Z (fu := fu) (k := k) ns 0
 obtain ⟨v1, c1⟩ := q6Z (fu := fu) (k := k) ns 1
 obtain ⟨xs, hx, st0⟩ := q5c (fu := fu) (k := k) v0 8 (by decide)
 obtain ⟨a0, h0⟩ := q4g (xs := xs) (i := 0) (by omega) (by rw [hx]; omega)
 obtain ⟨a1, h1⟩ := q4g (xs := xs) (i := 1) (by omega) (by rw [hx]; omega)
 obtain ⟨a3, h3⟩ := q4g (xs := xs) (i := 3) (by omega) (by rw [hx]; omega)
 obtain ⟨tp, htp, htop⟩ := top4 a3
 obtain ⟨n, hn⟩ : ∃ n : Nat, 1 + a0 % 8 = (n : Int) := ⟨(1 + a0 % 8).toNat, by omega⟩
 obtain ⟨m, hm⟩ : ∃ m : Nat, 1 + a1 % 8 = (m : Int) := ⟨(1 + a1 % 8).toNat, by omega⟩
 have n8 : n <= 8 := by omega
 have m8 : m <= 8 := by omega
 have nm : n * m <= 64 := Nat.le_trans (Nat.mul_le_mul n8 m8) (by decide)
 obtain ⟨ws0, hw0, st1⟩ := q5c (fu := fu) (k := k) v1 (n * m) (by omega)
 have mk1 : q2l (n : Int) (m : Int) = true := by unfold q2l; simp; omega
 have cm := q7Q (G := G) (F := run G T fu (k + 1)) (δ := (Sc ns xs n m tp .no .no)) (elt := .bin .Mod (.var 0) (.var 1)) (tg := .one 0) (it := .call 12 [.call 11 [.var 0, .int 1], .bin .Mult (.var 4) (.var 5)]) (fr := [none, some 6]) (f := λ d => match d with | .int x => .int (x % tp) | d => d) (ds := ws0.map DV.int) (cl := .fresh)
  (by
   have q := q0k (G := G) (F := run G T fu (k + 1)) (δ := (Sc ns xs n m tp .no .no)) (f := 12) (q0b (q0k (f := 11) (q0b (q0a (n := 0) (d := .scr ns) rfl) (q0b (q0c (i := 1)) q0e)) rfl c1) (q0b (q3b (q0a (n := 4) (d := .int n) rfl) (q0a (n := 5) (d := .int m) rfl) mk1) q0e)) rfl (by rw [show ((n : Int) * (m : Int)) = ((n * m : Nat) : Int) by push_cast; rfl]; exact st1)
   rw [q]
   rfl) (by decide) (by rw [List.length_map, hw0]; exact Nat.le_trans nm (by decide)) (λ d hd => by
   obtain ⟨x, hx, rfl⟩ := List.mem_map.mp hd
   exact ⟨[.val (.int x), .val (.int tp)], rfl, q1f (q0a rfl) (q0a rfl) htp⟩)
 rw [List.map_map, show ((λ d => match d with | DV.int x => DV.int (x % tp) | d => d) ∘ DV.int) = DV.int ∘ (λ x : Int => x % tp) from rfl, ← List.map_map] at cm
 obtain ⟨b, hb, hb1, hb2⟩ : ∃ b : Int, (if (ns.length : Int) - 3 < (n : Int) * m then (ns.length : Int) - 3 else (n : Int) * m) = b /\ b <= ((n * m : Nat) : Int) /\ b <= (ns.length : Int) - 3 := by
  refine ⟨_, rfl, ?_, ?_⟩ <;> split <;> push_cast <;> omega
 have hb3 : -1000 <= b := by
  rw [← hb]
  have : (0 : Int) <= (n : Int) * m := Int.mul_nonneg (Int.natCast_nonneg n) (Int.natCast_nonneg m)
  split <;> omega
 obtain ⟨δ1, l1, ws, z, hw, rfl⟩ := q0Q (i := 8) (I := λ _ δ => ∃ (ws : List Int) (z : Sv), ws.length = n * m /\ δ = (Sc ns xs n m tp (.own (.lst (ws.map DV.int))) z))
  (body := λ δ' => evSs G (run G T fu (k + 1)) fu [.seti 7 (.var 8) (.bin .Mod (.ix (.var 0) (.bin .Add (.var 1) (.var 8))) (.var 6))] δ') b.toNat 0 (δ := (Sc ns xs n m tp (.own (.lst ((ws0.map λ x => x % tp).map DV.int))) .no))
  (λ j hj δ I => by
   obtain ⟨ws, z, hw, rfl⟩ := I
   rw [show (0 : Int) + (j : Int) = j by omega]
   have h3 : 3 + j < ns.length := by omega
   have hv : ixD (.scr ns) (.int (3 + (j : Int))) = some (.int ns[3 + j]) := by
    rw [show (3 : Int) + (j : Int) = ((3 + j : Nat) : Int) by push_cast; rfl]
    show ((q1v ns.length ((3 + j : Nat) : Int)).bind λ j => ns[j]?).map DV.int = _
    rw [z3y h3, Option.bind_some, List.getElem?_eq_getElem h3]
    rfl
   refine ⟨_, q0g (q6h (d := .int (ns[3 + j] % tp)) (cl := .strong) (n := j) (cx := .strong) (j := j) rfl (q1f (q0F (q0a rfl) (q1H (q0a rfl) (q0a rfl)) hv) (q0a rfl) htp) (q0a rfl) rfl (z3y (by rw [List.length_map, hw]; omega))) rfl, ws.set j (ns[3 + j] % tp), .val (.int j), by rw [List.length_set]; exact hw, ?_⟩
   rw [List.map_set]
   rfl) ⟨ws0.map λ x => x % tp, .no, by rw [List.length_map]; exact hw0, rfl⟩
 have em : evE G (run G T fu (k + 1)) (.bi .min [.bin .Mult (.var 4) (.var 5), .bin .Sub (.bi .len [.var 0]) (.var 1)]) (Sc ns xs n m tp (.own (.lst ((ws0.map λ x => x % tp).map DV.int))) .no) = some (.ok (.int b) .strong) := by
  have e1 : evE G (run G T fu (k + 1)) (.bi .len [.var 0]) (Sc ns xs n m tp (.own (.lst ((ws0.map λ x => x % tp).map DV.int))) .no) = some (.ok (.int ns.length) .strong) := rfl
  rw [z0U (q0b (q3b (q0a (n := 4) (d := .int n) rfl) (q0a (n := 5) (d := .int m) rfl) mk1) (q0b (q7w e1 (q0a (n := 1) (d := .int 3) rfl)) q0e)), ← hb]
  rfl
 have rt := q4U (F := run G T fu (k + 1)) (δ := (Sc ns xs n m tp (.own (.lst (ws.map DV.int))) z)) (elt := .bi .tuple [.sl (.var 1) (.bin .Mult (.var 0) (.var 2)) (.bin .Add (.bin .Mult (.var 0) (.var 2)) (.var 2))]) (tg := .one 0) (it := .rng [.var 4]) (fr := [none, some 7, some 5]) (l := List.range n) (h := λ (j : Nat) => DV.int (0 + (j : Int))) (f := λ j => .tup (iD ((ws.drop (j * m)).take m))) (cl := .fresh)
  (q3Z (q0a rfl) (by omega)) (by decide) (by rw [List.length_range]; omega) (λ j hd => by
   have hj := List.mem_range.mp hd
   rw [show (0 : Int) + (j : Int) = j by omega]
   have mk2 : q2l (j : Int) (m : Int) = true := by unfold q2l; simp; omega
   refine ⟨[.val (.int j), .own (.lst (iD ws)), .val (.int m)], .strong, rfl, ?_, rfl⟩
   rw [← z2p hw hj]
   exact q5d (c := .fresh) (z5t (q3P rfl) (q3b (q0a rfl) (q0a rfl) mk2) (q1H (q3b (q0a rfl) (q0a rfl) mk2) (q0a rfl))))
 rw [show ((List.range n).map λ j => DV.tup (iD ((ws.drop (j * m)).take m))) = (q5z n m ws).map λ r => .tup (iD r) by unfold q5z; rw [List.map_map]; rfl] at rt
 refine ⟨n, m, q5z n m ws, by omega, n8, by omega, m8, q8Z hw, ?_⟩
 rw [q0E (fd := q0X) rfl rfl]
 unfold q0X
 have hn' : ∀ {i : Nat} {a : Int} {n : Nat} {δ : List Sv} (_ : ∀ {F : Nat -> List DV -> Option Ou} {δ : List Sv} {e : ME}, evE G F e δ = some (.ok (.lst (xs.map DV.int)) .strong) -> evE G F (.ix e (.int (i : Int))) δ = some (.ok (.int a) .strong)) (_ : 1 + a % 8 = (n : Int)) (_ : δ[3]? = some (.val (.lst (xs.map DV.int)))) (_ : δ[2]? = some (.val (.int 8))), evE G (run G T fu (k + 1)) (.bin .Add (.int 1) (.bin .Mod (.ix (.var 3) (.int (i : Int))) (.var 2))) δ = some (.ok (.int (n : Int)) .strong) := λ {i a n δ} h q d3 d2 => by
  rw [← q]
  exact q1H q0c (q1f (h (q0a d3)) (q0a d2) (by decide))
 exact q1k (q0g (q0h (d := .lst (xs.map DV.int)) (cl := .fresh) (q0k (fr := true) (l := [(.int v0, .strong), (.int ((8 : Nat) : Int), .strong)]) (q0b (q0k (fr := false) (q0b (q0a (d := .scr ns) rfl) (q0b (q0c (i := ((0 : Nat) : Int))) q0e)) rfl c0) (q0b q0c q0e)) rfl st0) rfl)
  (q0g (q0h (hn' (i := 0) h0 hn rfl rfl) rfl) (q0g (q0h (hn' (i := 1) h1 hm rfl rfl) rfl)
  (q0g (q0h (d := .int tp) (cl := .strong) (q0F (cx := .fresh) (x := .lst [.int 2, .int 3, .int 10, .int 2]) rfl (q1f (h3 (q0a rfl)) q0c (by decide)) htop) rfl)
  (q0g (q2S cm) (q4J (z4X em (by omega) hb3) (.inr rfl) l1 (q1e (q0Z (cl := .strong) (q5d rt)))))))))
end k61
end
section
namespace k61
open PySem L2
variable {fu k : Nat} {F : Nat -> List DV -> Option Ou} {δ : List Sv} {ds : List DV} {cl : Cl} {n m : Nat} {rows : List (List Int)}
theorem z6b (i j : Nat) : cmpD .Eq (.tup [.int (i : Int), .int (j : Int)]) (.tup [.int (i : Int), .int (j : Int)]) = some true := by
 show some (deq (.tup [.int (i : Int), .int (j : Int)]) (.tup [.int (i : Int), .int (j : Int)])) = _
 simp [deq, deqs]
theorem q3S {M : Mx} (R : Rect n m rows) (hn : 0 < n) (hm : 0 < m) (hn8 : n <= 8) (hm8 : m <= 8) (hM : Mix fu M) (hf : 400 <= fu) {i j : Nat} (e : lst3 (tall (rf rows M) m n) = ((rf rows M i j : Int), (i : Int), (j : Int))) :
  run G T fu (k + 3) 23 [wrst (rf rows M i j) (tot M) i j, tT rows, mxD M, .int ((tot M : Nat) : Int)] = some (.v (.bl true) false) := by
 have h1000 : M.length <= 1000 := by have := hM.len; omega
 rw [q0E (fd := q1N) rfl rfl]
 unfold q1N
 have cm := q6J (F := run G T fu (k + 2)) (δ := q0D 7 [wrst (rf rows M i j) (tot M) i j, tT rows, mxD M, .int ((tot M : Nat) : Int)]) (l := [((rf rows M i j / Nat.gcd (rf rows M i j) (tot M) : Nat) : Int), ((tot M / Nat.gcd (rf rows M i j) (tot M) : Nat) : Int), (i : Int), (j : Int)]) (h := DV.int) (f := DV.int) (p := λ _ => true) (elt := .var 0) (tg := .one 0) (it := .var 0) (cd := .call 10 [.var 0]) (fr := [none]) (cl := .strong) rfl (by decide) (show 4 <= 1000 by decide) λ x _ => ⟨[.val (.int x)], .strong, rfl, q0z (q0k (fr := false) (q0b (q0a rfl) q0e) rfl (z0O x)), q0a rfl, rfl⟩
 have ln := q4H cm
 have o1 : evE G (run G T fu (k + 2)) (.or [.not (.isi (.var 0) ["tuple"]), .cmp .NotEq (.bi .len [.var 0]) (.int 4), .cmp .NotEq (.bi .len [.compi (.var 0) (.one 0) (.var 0) (.call 10 [.var 0]) [none]]) (.int 4)]) (q0D 7 [wrst (rf rows M i j) (tot M) i j, tT rows, mxD M, .int ((tot M : Nat) : Int)]) = some (.ok (.bl false) .strong) :=
  or_f (cx := .strong) rfl (or_f (cx := .strong) rfl (or_1 (q1P ln q0c rfl)))
 have lp := q0Q (i := 5) (I := λ a δ => ∃ z : Sv, δ = [.val (wrst (rf rows M i j) (tot M) i j), .val (tT rows), .val (mxD M), .val (.int ((tot M : Nat) : Int)), .val (.lst ((tall (rf rows M) m a).map trD)), z, .no])
  (body := λ δ' => evSs G (run G T fu (k + 2)) fu [.set 4 false (.bin .Add (.var 4) (.comp (.tup [.call 20 [.var 1, .var 2, .var 3, .var 0], .var 3, .var 0]) (.one 0) (.rng [.bi .len [.ix (.var 1) (.int 0)]]) [none, some 1, some 2, some 5]))] δ') n 0 (δ := [.val (wrst (rf rows M i j) (tot M) i j), .val (tT rows), .val (mxD M), .val (.int ((tot M : Nat) : Int)), .val (.lst []), .no, .no])
  (λ a ha δ I => by
   obtain ⟨z, rfl⟩ := I
   rw [show (0 : Int) + (a : Int) = a by omega]
   refine ⟨_, q0g (q0h (z4D (cx := .strong) (q0a rfl) (z0x (m := m) (i := a) (a := 1) (f := rf rows M) hm8 rfl (q7c R hn (q0a rfl)) (λ j' hj' => z3u (k := k) R ha hj' h1000 hM.low hf)) (z0E hm8 hn8 ha)) rfl) rfl, .val (.int (a : Int)), ?_⟩
   rw [q4b, List.map_append]
   rfl) ⟨.no, rfl⟩
 refine q1k (q1E (q0z o1) (q0g (q0h (d := .lst []) (cl := .fresh) rfl rfl) (q6E (q3Z (n := n) (lenT R (q0a rfl)) (by omega)) (.inr rfl) lp λ δ' q => ?_)))
 obtain ⟨z, rfl⟩ := q
 have mn := q8m (F := run G T fu (k + 2)) (q6p (f := rf rows M) hn hm) (q0a (G := G) (n := 4) (δ := [.val (wrst (rf rows M i j) (tot M) i j), .val (tT rows), .val (mxD M), .val (.int ((tot M : Nat) : Int)), .val (.lst ((tall (rf rows M) m n).map trD)), z, .no]) rfl)
 rw [e] at mn
 have sh := q3U (fu := fu) (k := k) (q9i (rows := rows) hM i j) hM.top hM.pos hf
 exact q0g (q0h (cl := .strong) mn rfl) (q1e (q0Z (cl := .strong) (q8V (cx := .strong) (q1P (cx := .strong) (cy := .strong) (x := .tup [.int (i : Int), .int (j : Int)]) (y := .tup [.int (i : Int), .int (j : Int)]) rfl rfl (z6b i j)) (z2l (q0k (fr := false) (l := [(low (rf rows M i j) (tot M), .strong), (.int (rf rows M i j : Int), .strong), (.int ((tot M : Nat) : Int), .strong)]) rfl rfl sh)))))
theorem q3K {x a b : DV} {t : Bool} (R : Rect n m rows) (hn : 0 < n) (h1 : run G T fu (k + 1) 0 [a, .int 0, .int ((n : Int) - 1)] = some (.v (.bl t) false)) (h2 : t = true -> run G T fu (k + 1) 0 [b, .int 0, .int ((m : Int) - 1)] = some (.v (.bl false) false)) : run G T fu (k + 3) 6 [tT rows, x, a, b] = some (.x "NoCard") := by
 have c1 := q5Q h1
 rw [q0E (fd := q0S) rfl rfl]
 unfold q0S
 cases t with
 | false => exact z1o (q7Z (q6f (q4X (q0b (q0a rfl) (q0b (lenT R (q0a rfl)) q0e)) c1)))
 | true =>
  have c2 := q5Q (h2 rfl)
  exact z1o (q0g (q8H (q0k (q0b (q0a rfl) (q0b (lenT R (q0a rfl)) q0e)) rfl c1)) (q7Z (q6f (q4X (q0b (q0a rfl) (q0b (q7c R hn (q0a rfl)) q0e)) c2))))
theorem q5m {t x a b : DV} (h : run G T fu k 6 [t, x, a, b] = some (.x "NoCard")) : run G T fu (k + 1) 22 [t, x, a, b] = some (.v (.bl true) false) := by
 rw [q0E (fd := q1p) rfl rfl]
 unfold q1p
 have b1 : evSs G (run G T fu k) fu [.exp (.call 6 [.var 0, .var 1, .var 2, .var 3])] [.val t, .val x, .val a, .val b, .val .non, .no] = some (.ex "NoCard" [.val t, .val x, .val a, .val b, .val .non, .no]) :=
  q7Z (q6f (q4X (q0b (q0a rfl) (q0b (q0a rfl) (q0b (q0a rfl) (q0b (q0a rfl) q0e)))) h))
 have b2 : evS G (run G T fu k) fu (.tryc [.exp (.call 6 [.var 0, .var 1, .var 2, .var 3])] "TalkError" 5 4) [.val t, .val x, .val a, .val b, .val .non, .no] = some (.nx [.val t, .val x, .val a, .val b, .val (.exc "NoCard"), .no]) := by
  show tryD G "TalkError" 5 4 (evSs G (run G T fu k) fu [.exp (.call 6 [.var 0, .var 1, .var 2, .var 3])] [.val t, .val x, .val a, .val b, .val .non, .no]) = _
  rw [b1]
  rfl
 exact q1k (q0g (q0h (d := .non) (cl := .strong) rfl rfl) (q0g b2 (q1E (q0z (x := false) (cl := .strong) rfl) (q1e rfl))))
noncomputable def q4s (a : Int) (c : Nat) : List DV := [.int (-1 - a % 9), .int (c : Int), .int 10, .bl true, .non, .str "0", .lst [.int 0]]
theorem q6c {z : Int} {s : Nat} (h : z < 0 \/ (s : Int) <= z) : run G T fu (k + 1) 0 [.int z, .int 0, .int ((s : Int) - 1)] = some (.v (.bl false) false) := by
 rw [q4E]
 congr 2
 rw [DV.bl.injEq]
 rcases h with h | h
 ·rw [decide_eq_false (by omega)]; rfl
 ·rw [decide_eq_false (p := z <= (s : Int) - 1) (by omega), Bool.and_false]
theorem q4m {a : Int} {s : Nat} (hs : s <= 8) : ∀ d ∈ q4s a s, run G T fu (k + 1) 0 [d, .int 0, .int ((s : Int) - 1)] = some (.v (.bl false) false) := by
 intro d hd
 unfold q4s at hd
 simp only [List.mem_cons, List.not_mem_nil, or_false] at hd
 rcases hd with rfl | rfl | rfl | rfl | rfl | rfl | rfl
 ·exact q6c (.inl (by have := Int.emod_nonneg a (b := 9) (by omega); omega))
 ·exact q6c (.inr (Int.le_refl _))
 ·exact q6c (.inr (by omega))
 all_goals
  rw [q0E (fd := q2v) rfl rfl]
  unfold q2v
  exact q1k (q1e rfl)
theorem q5L (a y : Int) (c : Nat) : ∃ d ∈ q4s a c, ixD (.lst (q4s a c)) (.int (y % 7)) = some d := by
 have : y % 7 = 0 \/ y % 7 = 1 \/ y % 7 = 2 \/ y % 7 = 3 \/ y % 7 = 4 \/ y % 7 = 5 \/ y % 7 = 6 := by omega
 unfold q4s
 rcases this with h | h | h | h | h | h | h <;> rw [h] <;> exact ⟨_, by simp, rfl⟩
end k61
end
section
namespace k61
open PySem L2
variable {fu k : Nat} {F : Nat -> List DV -> Option Ou} {δ : List Sv} {ds : List DV} {cl : Cl} {n m : Nat} {rows : List (List Int)}
theorem q9E {tg : Tg} {body : List Sv -> Option Out} {d : DV} {r : List DV} {δ1 δ2 : List Sv} (h1 : tg.bind d δ = some δ1) (h2 : body δ1 = some (.nx δ2)) : q1y tg body (d :: r) δ = q1y tg body r δ2 := by
 rw [q1y, h1]
 show (match body δ1 with | some (.nx δ2) => q1y tg body r δ2 | o => o) = _
 rw [h2]
theorem z0r {e : ME} {ds : List DV} (h : evE G F e δ = some (.ok (.tup ds) .strong)) : evE G F (.bi .list [e]) δ = some (.ok (.lst ds) .fresh) := by
 show Rs.thn (evEs G F [e] δ) (λ l => q6a l) = _
 rw [q0b h q0e]
 rfl
theorem q6y (t : Sv) : ∀ (rows : List (List Int)) (a : List Int) (c : Sv), (∀ r ∈ rows, r.length = m) -> a.length + rows.length * m <= 1000 -> ∃ c', q1y (.one 2) (λ δ' => evSs G F fu [.set 1 false (.bin .Add (.var 1) (.bi .list [.var 2]))] δ') (rows.map λ r => .tup (iD r)) [t, .val (.lst (iD a)), c] = some (.nx [t, .val (.lst (iD (a ++ rows.flatten))), c'])
 | [], a, c, _, _ => ⟨c, by rw [List.flatten_nil, List.append_nil]; rfl⟩
 | r :: rows, a, c, h, hl => by
  have hr := h r (List.mem_cons_self ..)
  rw [List.length_cons, Nat.add_mul, Nat.one_mul] at hl
  obtain ⟨c', ih⟩ := q6y t rows (a ++ r) (.val (.tup (iD r))) (λ r' hr' => h r' (List.mem_cons_of_mem _ hr')) (by rw [List.length_append, hr]; omega)
  refine ⟨c', ?_⟩
  rw [List.flatten_cons, ← List.append_assoc, ← ih, List.map_cons]
  refine q9E (δ1 := [t, .val (.lst (iD a)), .val (.tup (iD r))]) rfl (q0g (q0h (z4D (cx := .strong) (q0a rfl) (z0r (q0a rfl)) ?_) rfl) ?_)
  ·unfold iD; rw [List.length_map, List.length_map]; omega
  ·unfold iD; rw [List.map_append]; rfl
theorem z2k (R : Rect n m rows) (hn : 0 < n) (hm : 0 < m) (hn8 : n <= 8) (hm8 : m <= 8) : ∃ ws : List Int, 0 < ws.length /\ run G T fu (k + 1) 14 [tT rows] = some (.v (.lst (ws.map DV.int)) false) := by
 have nm : n * m <= 8 * 8 := Nat.mul_le_mul hn8 hm8
 obtain ⟨c', e⟩ := q6y (m := m) (fu := fu) (F := run G T fu k) (.val (tT rows)) rows [] .no R.2 (by rw [R.1, List.length_nil]; omega)
 refine ⟨rows.flatten, ?_, ?_⟩
 ·obtain ⟨r0, rest, rfl⟩ : ∃ r0 rest, rows = r0 :: rest := by
   cases rows with
   | nil => have := R.1; simp at this; omega
   | cons a b => exact ⟨a, b, rfl⟩
  rw [List.flatten_cons, List.length_append, R.2 r0 (List.mem_cons_self ..)]
  omega
 ·rw [q0E (fd := q1M) rfl rfl]
  unfold q1M
  exact q1k (q0g (q0h (d := .lst []) (cl := .fresh) rfl rfl) (q4J (cl := .strong) rfl (.inl rfl) e (q1e (q0Z (cl := .strong) (q0a rfl)))))
theorem q8o (y : Int) : ∃ s : Bool, ixD (.lst [.str "row", .str "column"]) (.int (y % 2)) = some (side s) := by
 have : y % 2 = 0 \/ y % 2 = 1 := by omega
 rcases this with h | h <;> rw [h]
 ·exact ⟨true, rfl⟩
 ·exact ⟨false, rfl⟩
theorem q2G (y : Int) : ∃ c : Nat, 1 + y % 255 = (c : Int) := ⟨(1 + y % 255).toNat, by omega⟩
theorem or2b {a b : ME} {x y : Bool} (ha : evE G F a δ = some (.ok (.bl x) .strong)) (hb : evE G F b δ = some (.ok (.bl y) .strong)) : tstD (evE G F (.or [a, b]) δ) = some (.ok (x || y)) := by
 cases x with
 | true => exact q0z (z1A ha)
 | false => exact q0z (q9k ha hb)
theorem q6S {v : Int} {e : ME} (h : evE G F e δ = some (.ok (.int v) .strong)) : evE G F (.tup [.str "end", e]) δ = some (.ok (dv (.fin v)) .strong) :=
 q5h (q0b q3o (q0b h q0e)) (show 2 <= mostLen by decide) rfl
theorem q6R {s : Bool} {c : Nat} {p q : Pl} {a b x y : ME} (ha : evE G F a δ = some (.ok (side s) .strong)) (hb : evE G F b δ = some (.ok (.int (c : Int)) .strong)) (hx : evE G F x δ = some (.ok (dv p) .strong)) (hy : evE G F y δ = some (.ok (dv q) .strong)) : evE G F (.tup [.str "ask", a, b, x, y]) δ = some (.ok (dv (.ask s c p q)) .strong) :=
 q5h (q0b q3o (q0b ha (q0b hb (q0b hx (q0b hy q0e))))) (show 5 <= mostLen by decide) rfl
theorem m2 (x : Int) : q2l 2 x = true := by unfold q2l; simp
theorem q6t {ws : List Int} (h : 0 < ws.length) (i : Int) : ∃ v, ixD (.lst (ws.map DV.int)) (.int (i % ((ws.map DV.int).length : Int))) = some (.int v) := by
 rw [List.length_map]
 exact z0G (Int.emod_nonneg i (by omega)) (Int.emod_lt_of_pos i (by omega))
theorem q5Z {xs : List Int} (h : 0 < xs.length) : ∀ (K : Nat) (room : Nat) (a : Int), room < K -> ∃ p, ht p <= room /\ run G T fu K 15 [.lst (xs.map DV.int), .int a, .int (room : Int)] = some (.v (dv p) false)
 | 0, _, _, h => absurd h (Nat.not_lt_zero _)
 | K + 1, room, a, hK => by
  obtain ⟨v, hv⟩ := q6t h a
  rw [q0E (fd := q0T) rfl rfl]
  unfold q0T
  have s1 := q0h (fu := fu) (i := 3) (q0F (cx := .strong) (G := G) (F := run G T fu K) (δ := q0D 6 [.lst (xs.map DV.int), .int a, .int (room : Int)]) (a := .var 0) (b := .bin .Mod (.var 1) (.bi .len [.var 0])) (q0a rfl) (q1f (q0a rfl) (q4H (c := .strong) (q0a rfl)) (by rw [List.length_map]; omega)) hv) rfl
  have ts := or2b (F := run G T fu K) (δ := [.val (.lst (xs.map DV.int)), .val (.int a), .val (.int (room : Int)), .val (.int v), .no, .no]) (a := .cmp .Eq (.var 2) (.int 0)) (b := .cmp .Eq (.bin .Mod (.var 3) (.int 4)) (.int 0)) (b_eq (i := (room : Int)) (j := 0) (q0a rfl) q0c) (b_eq (i := v % 4) (j := 0) (q1f (q0a rfl) q0c (by decide)) q0c)
  cases q : ((room : Int) == 0 || v % 4 == 0) with
  | true =>
   rw [q] at ts
   refine ⟨.fin (v / 4 % 10), Nat.zero_le _, q1k (q0g s1 (q8I ts (q1e (q0Z (cl := .strong) (q6S (q1f (q7V (q0a rfl) q0c (by decide)) q0c (by decide)))))))⟩
  | false =>
   rw [q] at ts
   have r0 : 0 < room := by
    rcases Nat.eq_zero_or_pos room with z | z
    ·rw [z] at q; simp at q
    ·exact z
   obtain ⟨p1, hp1, e1⟩ := q5Z h K (room - 1) (2 * a + 1) (by omega)
   obtain ⟨p2, hp2, e2⟩ := q5Z h K (room - 1) (2 * a + 2) (by omega)
   rw [show ((room - 1 : Nat) : Int) = (room : Int) - 1 by omega] at e1 e2
   obtain ⟨s, hs⟩ := q8o (v / 4)
   obtain ⟨c, hc⟩ := q2G (v / 8)
   refine ⟨.ask s c p1 p2, by unfold ht; omega, q1k (q0g s1 (q1E ts (q0g (q0h (q0k (fr := false) (q0b (q0a rfl) (q0b (q1H (q3b q0c (q0a rfl) (m2 _)) q0c) (q0b (q7w (q0a rfl) q0c) q0e))) rfl e1) rfl) (q0g (q0h (q0k (fr := false) (q0b (q0a rfl) (q0b (q1H (q3b q0c (q0a rfl) (m2 _)) q0c) (q0b (q7w (q0a rfl) q0c) q0e))) rfl e2) rfl) (q1e (q0Z (cl := .strong) (q6R ?_ ?_ (q0a rfl) (q0a rfl))))))))⟩
   ·exact q0F (cx := .fresh) (x := .lst [.str "row", .str "column"]) rfl (q1f (q7V (q0a rfl) q0c (by decide)) q0c (by decide)) hs
   ·rw [← hc]
    exact q1H q0c (q1f (q7V (q0a rfl) q0c (by decide)) q0c (by decide))
theorem z3x : cmpD .Eq (.str "end") (.str "end") = some true := by decide +kernel
theorem z2P : cmpD .Eq (.str "ask") (.str "end") = some false := by decide +kernel
theorem z1T {ws : List Int} (h : 0 < ws.length) : ∀ (p : Pl) (K : Nat), ht p < K -> ∃ q, ht q <= ht p /\ run G T fu K 16 [dv p, .lst (ws.map DV.int)] = some (.v (dv q) false)
 | _, 0, h => absurd h (Nat.not_lt_zero _)
 | .fin x, K + 1, _ => by
  obtain ⟨v, hv⟩ := q6t h x
  rw [q0E (fd := q0C) rfl rfl]
  unfold q0C
  exact ⟨.fin v, Nat.le_refl _, q1k (q8I (q0z (cl := .strong) (q1P (q0F (cx := .strong) (q0a rfl) q0c rfl) q3o z3x)) (q1e (q0Z (cl := .strong) (q6S (q0F (cx := .strong) (q0a rfl) (q1f (i := x) (q0F (cx := .strong) (q0a rfl) q0c rfl) (q4H (c := .strong) (q0a rfl)) (by rw [List.length_map]; omega)) hv)))))⟩
 | .ask s c a b, K + 1, hK => by
  have hK' : max (ht a) (ht b) + 1 < K + 1 := hK
  obtain ⟨q1, hq1, e1⟩ := z1T h a K (by omega)
  obtain ⟨q2, hq2, e2⟩ := z1T h b K (by omega)
  rw [q0E (fd := q0C) rfl rfl]
  unfold q0C
  exact ⟨.ask s c q1 q2, (by show max (ht q1) (ht q2) + 1 <= max (ht a) (ht b) + 1; omega), q1k (q1E (q0z (cl := .strong) (q1P (q0F (cx := .strong) (q0a rfl) q0c rfl) q3o z2P)) (q1e (q0Z (cl := .strong) (q6R (q0F (cx := .strong) (q0a rfl) q0c rfl) (q0F (cx := .strong) (q0a rfl) q0c rfl)
   (q0k (fr := false) (l := [(dv a, .strong), (.lst (ws.map DV.int), .strong)]) rfl rfl e1) (q0k (fr := false) (l := [(dv b, .strong), (.lst (ws.map DV.int), .strong)]) rfl rfl e2)))))⟩
end k61
end
section
namespace k61
open PySem L2
variable {fu k : Nat} {F : Nat -> List DV -> Option Ou} {δ : List Sv} {ds : List DV} {cl : Cl} {n m : Nat} {rows : List (List Int)}
theorem q5P (c : Int) (n : Nat) (hn : n <= 1000) : ∃ xs : List Int, (xs.length = n /\ ∀ x ∈ xs, 0 <= x /\ x < 2 ^ 31) /\ run G T fu (k + 1) 12 [.int c, .int n] = some (.v (.lst (xs.map DV.int)) true) := by
 rw [q0E (fd := q0U) rfl rfl]
 obtain ⟨δ1, h1, xs, num, z, hl, rfl⟩ := q0Q (i := 4) (I := λ j δ => ∃ (xs : List Int) (num : Int) (z : Sv), (xs.length = j /\ ∀ x ∈ xs, 0 <= x /\ x < 2 ^ 31) /\ δ = [.val (.int c), .val (.int n), .own (.lst (xs.map DV.int)), .val (.int num), z])
  (body := λ δ' => evSs G (run G T fu k) fu [.set 3 false (.bin .Mod (.bin .Add (.bin .Add (.bin .Mult (.var 3) (.int 48271)) (.bin .Mult (.var 4) (.var 4))) (.int 11)) (.int 2147483647)), .app 2 (.bin .FloorDiv (.var 3) (.int 7))] δ') n 0 (δ := [.val (.int c), .val (.int n), .own (.lst []), .val (.int (c % 2147483647 + 48271)), .no])
  (λ j hj δ I => by
   obtain ⟨xs, num, z, ⟨hl, hB⟩, rfl⟩ := I
   rw [show (0 : Int) + (j : Int) = j by omega]
   obtain ⟨N, hN⟩ : ∃ N : Int, (num * 48271 + (j : Int) * j + 11) % 2147483647 = N := ⟨_, rfl⟩
   obtain ⟨D, hD⟩ : ∃ D : Int, N / 7 = D := ⟨_, rfl⟩
   have n0 : 0 <= N := by rw [← hN]; exact Int.emod_nonneg _ (by decide)
   have n1 : N < 2147483647 := by rw [← hN]; exact Int.emod_lt_of_pos _ (by decide)
   refine ⟨_, q0g (q0h (d := .int N) (cl := .strong) ?_ rfl) (q0g (q5g (d := .int D) (cl := .strong) rfl ?_ rfl (by rw [List.length_map, hl]; exact Nat.lt_of_lt_of_le (Nat.lt_of_lt_of_le hj hn) (by decide))) rfl), xs ++ [D], N, .val (.int j), ⟨by rw [List.length_append, hl]; rfl, λ x hx => ?_⟩, ?_⟩
   ·rw [← hN]; exact q1f (q1H (q1H (q3b (q0a rfl) q0c (m48 _)) (q3b (q0a rfl) (q0a rfl) (z3Y (by omega)))) q0c) q0c (by decide)
   ·rw [← hD]; exact q7V (q0a rfl) q0c (by decide)
   ·rcases List.mem_append.mp hx with q | q
    ·exact hB x q
    ·rw [List.mem_singleton.mp q]; omega
   ·rw [← q3z]; rfl) ⟨[], _, .no, ⟨rfl, λ x hx => absurd hx (List.not_mem_nil)⟩, rfl⟩
 refine ⟨xs, hl, ?_⟩
 unfold q0U
 exact q1k (q0g (q2S rfl) (q0g (q0h (d := .int (c % 2147483647 + 48271)) (cl := .strong) (q1H (q1f (q0a rfl) q0c (by decide)) q0c) rfl) (q4J (q3Z (n := n) (q0a rfl) hn) (.inr rfl) h1 (q1e rfl))))
theorem q3t {xs : List Int} {i : Int} (h0 : 0 <= i) (h : i < xs.length) : ∃ v, v ∈ xs /\ ∀ {F : Nat -> List DV -> Option Ou} {δ : List Sv} {e b : ME} {c : Cl}, evE G F e δ = some (.ok (.lst (xs.map DV.int)) .strong) -> evE G F b δ = some (.ok (.int i) c) -> evE G F (.ix e b) δ = some (.ok (.int v) .strong) := by
 obtain ⟨j, rfl⟩ := Int.eq_ofNat_of_zero_le h0
 have hj : j < xs.length := by omega
 exact ⟨xs[j], List.getElem_mem hj, λ he hb => q0F (cx := .strong) he hb (z0A hj)⟩
noncomputable abbrev Sl (xs ws : List Int) (p : Sv) (x y z : Sv) : List Sv := [.val (.lst (xs.map DV.int)), .val (.lst (ws.map DV.int)), p, x, y, z]
theorem z0I {xs ws : List Int} {i v w : Int} {b : ME} {p x y z : Sv} (h : 0 < ws.length) (hv : evE G F (.ix (.var 0) b) (Sl xs ws p x y z) = some (.ok (.int v) .strong)) (hw : ixD (.lst (ws.map DV.int)) (.int (v % ((ws.map DV.int).length : Int))) = some (.int w)) :
  evE G F (.tup [.str "end", .ix (.var 1) (.bin .Mod (.ix (.var 0) b) (.bi .len [.var 1]))]) (Sl xs ws p x y z) = some (.ok (dv (.fin w)) .strong) :=
 q6S (q0F (cx := .strong) (q0a rfl) (q1f hv (q4H (c := .strong) (q0a rfl)) (by rw [List.length_map]; omega)) hw)
theorem z2m (y : Int) (p q : DV) : ∃ a b : DV, (a = p /\ b = q \/ a = q /\ b = p) /\ ixD (.lst [.tup [p, q], .tup [q, p]]) (.int (y % 2)) = some (.tup [a, b]) := by
 have : y % 2 = 0 \/ y % 2 = 1 := by omega
 rcases this with h | h <;> rw [h]
 ·exact ⟨p, q, .inl ⟨rfl, rfl⟩, rfl⟩
 ·exact ⟨q, p, .inr ⟨rfl, rfl⟩, rfl⟩
theorem z4T (p : Pl) : frD (dv p) .strong = false := by cases p <;> rfl
theorem z4A {xs ws : List Int} (hx : xs.length = 61) (h : 0 < ws.length) : ∃ p, ht p <= 11 /\ run G T fu (k + 1) 18 [.lst (xs.map DV.int), .lst (ws.map DV.int)] = some (.v (dv p) false) := by
 obtain ⟨v0, _, h0⟩ := q3t (xs := xs) (i := 0) (by omega) (by rw [hx]; omega)
 obtain ⟨w0, hw0⟩ := q6t h v0
 obtain ⟨δ1, l1, p, x, y, z, hp, rfl⟩ := q0Q (i := 3) (I := λ j δ => ∃ (p : Pl) (x y z : Sv), ht p <= j /\ δ = Sl xs ws (.val (dv p)) x y z)
  (body := λ δ' => evSs G (run G T fu k) fu [.set 4 false (.tup [.str "end", .ix (.var 1) (.bin .Mod (.ix (.var 0) (.bin .Add (.int 1) (.var 3))) (.bi .len [.var 1]))]), .set 5 false (.ix (.lst [.tup [.var 2, .var 4], .tup [.var 4, .var 2]]) (.bin .Mod (.ix (.var 0) (.bin .Add (.int 12) (.var 3))) (.int 2))), .set 2 false (.tup [.str "ask", .ix (.lst [.str "row", .str "column"]) (.bin .Mod (.ix (.var 0) (.bin .Add (.int 23) (.var 3))) (.int 2)), .bin .Add (.int 1) (.bin .Mod (.ix (.var 0) (.bin .Add (.int 34) (.var 3))) (.int 255)), .ix (.var 5) (.int 0), .ix (.var 5) (.int 1)])] δ') 11 0 (δ := Sl xs ws (.val (dv (.fin w0))) .no .no .no)
  (λ j hj δ I => by
   obtain ⟨p, x, y, z, hp, rfl⟩ := I
   rw [show (0 : Int) + (j : Int) = j by omega]
   obtain ⟨v1, _, h1⟩ := q3t (xs := xs) (i := 1 + (j : Int)) (by omega) (by rw [hx]; omega)
   obtain ⟨v2, _, h2⟩ := q3t (xs := xs) (i := 12 + (j : Int)) (by omega) (by rw [hx]; omega)
   obtain ⟨v3, _, h3⟩ := q3t (xs := xs) (i := 23 + (j : Int)) (by omega) (by rw [hx]; omega)
   obtain ⟨v4, _, h4⟩ := q3t (xs := xs) (i := 34 + (j : Int)) (by omega) (by rw [hx]; omega)
   obtain ⟨w1, hw1⟩ := q6t h v1
   obtain ⟨a, b, hab, e5⟩ := z2m v2 (dv p) (dv (.fin w1))
   obtain ⟨s, hs⟩ := q8o v3
   obtain ⟨c, hc⟩ := q2G v4
   have st5 : ∀ (z : Sv), evE G (run G T fu k) (.ix (.lst [.tup [.var 2, .var 4], .tup [.var 4, .var 2]]) (.bin .Mod (.ix (.var 0) (.bin .Add (.int 12) (.var 3))) (.int 2))) (Sl xs ws (.val (dv p)) (.val (.int (j : Int))) (.val (dv (.fin w1))) z) = some (.ok (.tup [a, b]) .strong) := λ z =>
    q0F (cx := .fresh) (x := .lst [.tup [dv p, dv (.fin w1)], .tup [dv (.fin w1), dv p]]) rfl (q1f (h2 (q0a rfl) (q1H q0c (q0a rfl))) q0c (by decide)) e5
   have side5 : evE G (run G T fu k) (.ix (.lst [.str "row", .str "column"]) (.bin .Mod (.ix (.var 0) (.bin .Add (.int 23) (.var 3))) (.int 2))) (Sl xs ws (.val (dv p)) (.val (.int (j : Int))) (.val (dv (.fin w1))) (.val (.tup [a, b]))) = some (.ok (side s) .strong) :=
    q0F (cx := .fresh) (x := .lst [.str "row", .str "column"]) rfl (q1f (h3 (q0a rfl) (q1H q0c (q0a rfl))) q0c (by decide)) hs
   have set5 : evE G (run G T fu k) (.bin .Add (.int 1) (.bin .Mod (.ix (.var 0) (.bin .Add (.int 34) (.var 3))) (.int 255))) (Sl xs ws (.val (dv p)) (.val (.int (j : Int))) (.val (dv (.fin w1))) (.val (.tup [a, b]))) = some (.ok (.int (c : Int)) .strong) := by
    rw [← hc]
    exact q1H q0c (q1f (h4 (q0a rfl) (q1H q0c (q0a rfl))) q0c (by decide))
   have s4 := q0h (fu := fu) (i := 4) (z0I (F := run G T fu k) (i := 0) (b := .bin .Add (.int 1) (.var 3)) (p := .val (dv p)) (x := .val (.int (j : Int))) (y := y) (z := z) h (h1 (q0a rfl) (q1H q0c (q0a rfl))) hw1) rfl
   rcases hab with ⟨rfl, rfl⟩ | ⟨rfl, rfl⟩
   ·exact ⟨_, q0g s4 (q0g (q0h (st5 z) rfl) (q0g (q0h (q6R (p := p) (q := .fin w1) side5 set5 (q0F (cx := .strong) (q0a rfl) q0c rfl) (q0F (cx := .strong) (q0a rfl) q0c rfl)) rfl) rfl)), .ask s c p (.fin w1), _, _, _, (by show max (ht p) 0 + 1 <= j + 1; omega), rfl⟩
   ·exact ⟨_, q0g s4 (q0g (q0h (st5 z) rfl) (q0g (q0h (q6R (p := .fin w1) (q := p) side5 set5 (q0F (cx := .strong) (q0a rfl) q0c rfl) (q0F (cx := .strong) (q0a rfl) q0c rfl)) rfl) rfl)), .ask s c (.fin w1) p, _, _, _, (by show max 0 (ht p) + 1 <= j + 1; omega), rfl⟩) ⟨.fin w0, .no, .no, .no, Nat.le_refl _, rfl⟩
 refine ⟨p, hp, ?_⟩
 rw [q0E (fd := q1a) rfl rfl]
 unfold q1a
 exact q1k (q0g (q0h (z0I (i := 0) (p := .no) (x := .no) (y := .no) (z := .no) h (h0 (q0a rfl) q0c) hw0) rfl) (q4J (q3Z (n := 11) q0c (by decide)) (.inr rfl) l1 (q1e (by
  have q := q0Z (G := G) (F := run G T fu k) (fu := fu) (cl := .strong) (q0a (n := 2) (d := dv p) (δ := Sl xs ws (.val (dv p)) x y z) rfl)
  rw [z4T] at q
  exact q))))
end k61
end
section
namespace k61
open PySem L2
variable {fu k : Nat} {F : Nat -> List DV -> Option Ou} {δ : List Sv} {ds : List DV} {cl : Cl} {n m : Nat} {rows : List (List Int)}
noncomputable def Okm (M : Mx) : Prop := ∀ p ∈ M, ht p.2 <= 11 /\ 1 <= p.1 /\ p.1 < 2 ^ 75
theorem q6K (p : Nat × Pl) (M : Mx) : tot (p :: M) = p.1 + tot M := by unfold tot; rw [List.map_cons, List.sum_cons]
theorem q7L : ∀ {M : Mx}, Okm M -> tot M <= M.length * 2 ^ 75
 | [], _ => Nat.zero_le _
 | p :: M, h => by
  have q := q7L (M := M) λ x hx => h x (List.mem_cons_of_mem _ hx)
  have := (h p (List.mem_cons_self ..)).2.2
  rw [q6K, List.length_cons, Nat.add_mul, Nat.one_mul]
  omega
theorem z0K {M : Mx} (h : Okm M) (hl : M.length <= 20) (h0 : 0 < M.length) : Mix fu M where
 len := by omega
 low := λ p hp => Nat.le_trans (h p hp).1 (by decide)
 pos := by
  cases M with
  | nil => simp at h0
  | cons p M => rw [q6K]; have := (h p (List.mem_cons_self ..)).2.1; omega
 top := by
  have := q7L h
  have : M.length * 2 ^ 75 <= 20 * 2 ^ 75 := Nat.mul_le_mul_right _ hl
  have : 20 * 2 ^ 75 < 2 ^ 190 := by decide
  omega
theorem z1a : evE G F (.bin .Pow (.int 10) (.int 20)) δ = some (.ok (.int (10 ^ 20)) .strong) := by
 refine q2m q0c q0c ?_
 show (if (2 : Int) <= 10 /\ (10 : Int) < 64 /\ (1 : Int) <= 20 /\ (20 : Int) < 64 then some (Re.ok (.int (10 ^ (20 : Int).toNat)) .strong) else none) = _
 rw [if_pos (by decide)]
 rfl
theorem z1Z {a : Int} (b : Int) (h0 : 0 <= a) (h1 : a < 2 ^ 31) : q2l a b = true := by
 unfold q2l
 rw [decide_eq_true (p := -(2 ^ 64) < a) (by omega), decide_eq_true (p := a < 2 ^ 64) (by omega)]
 rfl
theorem z1k (a : Int) : q2l a 10007 = true := by unfold q2l; simp
theorem z0w (y a b : Int) (ha : 1 <= a /\ a < 2 ^ 75) (hb : 1 <= b /\ b < 2 ^ 75) : ∃ c : Nat, (1 <= c /\ c < 2 ^ 75) /\ ixD (.lst [.int 1, .int a, .int b]) (.int (y % 3)) = some (.int (c : Int)) := by
 have : y % 3 = 0 \/ y % 3 = 1 \/ y % 3 = 2 := by omega
 rcases this with h | h | h <;> rw [h]
 ·exact ⟨1, by decide, rfl⟩
 ·exact ⟨a.toNat, by omega, by rw [Int.toNat_of_nonneg (by omega)]; rfl⟩
 ·exact ⟨b.toNat, by omega, by rw [Int.toNat_of_nonneg (by omega)]; rfl⟩
noncomputable abbrev Sm (ns : List Int) (rows : List (List Int)) (xs ws : List Int) (q : Nat) (M : Sv) (a b c d : Sv) : List Sv := [.val (.scr ns), .val (tT rows), .val (.lst (xs.map DV.int)), .val (.lst (ws.map DV.int)), .val (.int (q : Int)), M, a, b, c, d]
theorem z2W {ns xs ws ys : List Int} {q : Nat} {M a d c0 : Sv} (hy : ys.length = 61) (hw : 0 < ws.length) {K : Nat} (hK : 12 < K) :
  ∃ p, ht p <= 11 /\ ∀ r : List MS, evSs G (run G T fu K) fu (.set 8 false (.call 15 [.var 7, .int 0, .int 4]) :: .iff (.cmp .Gt (.bin .Mod (.ix (.var 7) (.int 60)) (.int 4)) (.int 0)) [.set 8 false (.call 16 [.var 8, .var 3])] [] :: .iff (.cmp .Eq (.bin .Mod (.ix (.var 7) (.int 59)) (.int 5)) (.int 1)) [.set 8 false (.call 18 [.var 7, .var 3])] [] :: r) (Sm ns rows xs ws q M a (.val (.lst (ys.map DV.int))) c0 d) = evSs G (run G T fu K) fu r (Sm ns rows xs ws q M a (.val (.lst (ys.map DV.int))) (.val (dv p)) d) := by
 obtain ⟨p, hp, e1⟩ := q5Z (fu := fu) (xs := ys) (by omega) K 4 0 (by omega)
 obtain ⟨v60, h60⟩ := q4g (xs := ys) (i := 60) (by omega) (by rw [hy]; omega)
 obtain ⟨v59, h59⟩ := q4g (xs := ys) (i := 59) (by omega) (by rw [hy]; omega)
 obtain ⟨p2, hp2, e2⟩ := z1T (fu := fu) hw p K (by omega)
 obtain ⟨K', rfl⟩ : ∃ K', K = K' + 1 := ⟨K - 1, by omega⟩
 obtain ⟨p3, hp3, e3⟩ := z4A (fu := fu) (k := K') hy hw
 have last : ∀ p, ht p <= 11 -> ∃ p', ht p' <= 11 /\ ∀ r : List MS, evSs G (run G T fu (K' + 1)) fu (.iff (.cmp .Eq (.bin .Mod (.ix (.var 7) (.int 59)) (.int 5)) (.int 1)) [.set 8 false (.call 18 [.var 7, .var 3])] [] :: r) (Sm ns rows xs ws q M a (.val (.lst (ys.map DV.int))) (.val (dv p)) d) = evSs G (run G T fu (K' + 1)) fu r (Sm ns rows xs ws q M a (.val (.lst (ys.map DV.int))) (.val (dv p')) d) := λ p hp => by
  have t := q0z (b_eq (G := G) (F := run G T fu (K' + 1)) (δ := Sm ns rows xs ws q M a (.val (.lst (ys.map DV.int))) (.val (dv p)) d) (q1f (h59 (e := .var 7) (q0a rfl)) (q0c (i := 5)) (by decide)) (q0c (i := 1)))
  cases z : (v59 % 5 == 1) with
  | false => rw [z] at t; exact ⟨p, hp, λ r => q1E t rfl⟩
  | true => rw [z] at t; exact ⟨p3, hp3, λ r => q6M t (q0g (q0h (q0k (fr := false) (q0b (q0a rfl) (q0b (q0a rfl) q0e)) rfl e3) rfl) rfl) rfl⟩
 have t := q0z (b_gt (G := G) (F := run G T fu (K' + 1)) (δ := Sm ns rows xs ws q M a (.val (.lst (ys.map DV.int))) (.val (dv p)) d) (q1f (h60 (e := .var 7) (q0a rfl)) (q0c (i := 4)) (by decide)) (q0c (i := 0)))
 have s1 := q0h (fu := fu) (i := 8) (G := G) (F := run G T fu (K' + 1)) (δ := Sm ns rows xs ws q M a (.val (.lst (ys.map DV.int))) c0 d) (d := dv p) (q0k (f := 15) (fr := false) (q0b (q0a (n := 7) rfl) (q0b (q0c (i := 0)) (q0b (q0c (i := 4)) q0e))) rfl e1) rfl
 cases z : decide (0 < v60 % 4) with
 | false =>
  rw [z] at t
  obtain ⟨p', hp', e⟩ := last p (by omega)
  exact ⟨p', hp', λ r => q0g s1 (q1E t (e r))⟩
 | true =>
  rw [z] at t
  obtain ⟨p', hp', e⟩ := last p2 (by omega)
  exact ⟨p', hp', λ r => q0g s1 (q6M t (q0g (q0h (q0k (fr := false) (q0b (q0a rfl) (q0b (q0a rfl) q0e)) rfl e2) rfl) rfl) (e r))⟩
theorem z5k (ns : List Int) (R : Rect n m rows) (hn : 0 < n) (hm : 0 < m) (hn8 : n <= 8) (hm8 : m <= 8) : ∃ M : Mx, 0 < M.length /\ M.length <= 19 /\ Okm M /\ run G T fu (k + 14) 19 [.scr ns, tT rows] = some (.v (mxD M) true) := by
 obtain ⟨v2, c2⟩ := q6Z (fu := fu) (k := k + 12) ns 2
 obtain ⟨xs, ⟨hx, _⟩, st⟩ := q5P (fu := fu) (k := k + 12) v2 70 (by decide)
 obtain ⟨ws, hw, ew⟩ := z2k (fu := fu) (k := k + 12) R hn hm hn8 hm8
 obtain ⟨v60, h60⟩ := q4g (xs := xs) (i := 60) (by omega) (by rw [hx]; omega)
 obtain ⟨v61, h61⟩ := q4g (xs := xs) (i := 61) (by omega) (by rw [hx]; omega)
 obtain ⟨v62, h62⟩ := q4g (xs := xs) (i := 62) (by omega) (by rw [hx]; omega)
 obtain ⟨q0, hq0⟩ : ∃ q : Nat, 1 + v60 % 6 = (q : Int) := ⟨(1 + v60 % 6).toNat, by omega⟩
 have loop : ∀ q : Nat, 0 < q -> q <= 19 -> ∃ M : Mx, 0 < M.length /\ M.length <= 19 /\ Okm M /\ evSs G (run G T fu (k + 13)) fu (q1n.body.drop 4) (Sm ns rows xs ws q .no .no .no .no .no) = some (.rt (mxD M) true) := λ q hq hq19 => by
  unfold q1n
  simp only [List.drop_succ_cons, List.drop_zero]
  obtain ⟨δ1, l1, M, a, b, c, d, ⟨hM, oM⟩, rfl⟩ := q0Q (i := 6) (I := λ j δ => ∃ (M : Mx) (a b c d : Sv), (M.length = j /\ Okm M) /\ δ = Sm ns rows xs ws q (.own (mxD M)) a b c d)
   (body := λ δ' => evSs G (run G T fu (k + 13)) fu [.set 7 false (.call 12 [.bin .Add (.ix (.var 2) (.var 6)) (.var 6), .int 61]), .set 8 false (.call 15 [.var 7, .int 0, .int 4]), .iff (.cmp .Gt (.bin .Mod (.ix (.var 7) (.int 60)) (.int 4)) (.int 0)) [.set 8 false (.call 16 [.var 8, .var 3])] [], .iff (.cmp .Eq (.bin .Mod (.ix (.var 7) (.int 59)) (.int 5)) (.int 1)) [.set 8 false (.call 18 [.var 7, .var 3])] [], .set 9 false (.ix (.lst [.int 1, .bin .Add (.int 1) (.bin .Mod (.ix (.var 7) (.int 58)) (.int 6)), .bin .Add (.int 1) (.bin .Mod (.bin .Mult (.bin .Mult (.ix (.var 7) (.int 58)) (.ix (.var 7) (.int 57))) (.int 10007)) (.bin .Sub (.bin .Pow (.int 10) (.int 20)) (.int 1)))]) (.bin .Mod (.ix (.var 2) (.int 62)) (.int 3))), .app 5 (.tup [.var 9, .var 8])] δ') q 0 (δ := Sm ns rows xs ws q (.own (.lst [])) .no .no .no .no)
   (λ j hj δ I => by
    obtain ⟨M, a, b, c, d, ⟨hM, oM⟩, rfl⟩ := I
    rw [show (0 : Int) + (j : Int) = j by omega]
    obtain ⟨vj, _, hvj⟩ := q3t (xs := xs) (i := (j : Int)) (by omega) (by rw [hx]; omega)
    obtain ⟨ys, ⟨hy, hB⟩, sy⟩ := q5P (fu := fu) (k := k + 12) (vj + j) 61 (by decide)
    obtain ⟨w58, m58, h58⟩ := q3t (xs := ys) (i := 58) (by omega) (by rw [hy]; omega)
    obtain ⟨w57, m57, h57⟩ := q3t (xs := ys) (i := 57) (by omega) (by rw [hy]; omega)
    have b58 := hB w58 m58
    have hp1 : (0 : Int) < 10 ^ 20 - 1 := by decide
    have e1 := Int.emod_nonneg (w58 * w57 * 10007) (b := 10 ^ 20 - 1) (by decide)
    have e2 := Int.emod_lt_of_pos (w58 * w57 * 10007) hp1
    obtain ⟨s, hs, hat⟩ := z0w v62 (1 + w58 % 6) (1 + w58 * w57 * 10007 % (10 ^ 20 - 1)) (by omega) ⟨by omega, by
     have : (10 : Int) ^ 20 - 1 + 1 < 2 ^ 75 := by decide
     omega⟩
    obtain ⟨p, hp, ep⟩ := z2W (fu := fu) (rows := rows) (ns := ns) (xs := xs) (q := q) (M := .own (mxD M)) (a := .val (.int (j : Int))) (d := d) (c0 := c) hy hw (K := k + 13) (by omega)
    have s7 := q0h (fu := fu) (i := 7) (G := G) (F := run G T fu (k + 13)) (δ := Sm ns rows xs ws q (.own (mxD M)) (.val (.int (j : Int))) b c d) (d := .lst (ys.map DV.int)) (cl := .fresh) (q0k (f := 12) (fr := true) (q0b (q1H (hvj (e := .var 2) (b := .var 6) (q0a rfl) (q0a rfl)) (q0a (n := 6) rfl)) (q0b (q0c (i := ((61 : Nat) : Int))) q0e)) rfl sy) rfl
    let D : List Sv := Sm ns rows xs ws q (.own (mxD M)) (.val (.int (j : Int))) (.val (.lst (ys.map DV.int))) (.val (dv p)) d
    have g1 : evE G (run G T fu (k + 13)) (.bin .Add (.int 1) (.bin .Mod (.ix (.var 7) (.int 58)) (.int 6))) D = some (.ok (.int (1 + w58 % 6)) .strong) := q1H q0c (q1f (h58 (q0a rfl) q0c) q0c (by decide))
    have g2 : evE G (run G T fu (k + 13)) (.bin .Add (.int 1) (.bin .Mod (.bin .Mult (.bin .Mult (.ix (.var 7) (.int 58)) (.ix (.var 7) (.int 57))) (.int 10007)) (.bin .Sub (.bin .Pow (.int 10) (.int 20)) (.int 1)))) D = some (.ok (.int (1 + w58 * w57 * 10007 % (10 ^ 20 - 1))) .strong) := q1H q0c (q1f (q3b (q3b (h58 (q0a rfl) q0c) (h57 (q0a rfl) q0c) (z1Z _ b58.1 b58.2)) q0c (z1k _)) (q7w z1a q0c) hp1)
    have s9 := q0h (fu := fu) (i := 9) (cl := .strong) (q0F (cx := .fresh) (q6A (q0b (q0c (i := 1)) (q0b g1 (q0b g2 q0e))) (show 3 <= mostLen by decide) rfl) (q1f (h62 (e := .var 2) (δ := D) (q0a rfl)) (q0c (i := 3)) (by decide)) hat) rfl
    have sA := q5g (fu := fu) (i := 5) (ds := M.map pr) (G := G) (F := run G T fu (k + 13)) (δ := Sm ns rows xs ws q (.own (mxD M)) (.val (.int (j : Int))) (.val (.lst (ys.map DV.int))) (.val (dv p)) (.val (.int (s : Int)))) rfl (q5h (es := [.var 9, .var 8]) (l := [(.int (s : Int), .strong), (dv p, .strong)]) (q0b (q0a rfl) (q0b (q0a rfl) q0e)) (show 2 <= mostLen by decide) rfl) rfl (by rw [List.length_map, hM]; exact Nat.lt_of_lt_of_le (show j < 1000 by omega) (by decide))
    refine ⟨_, q0g s7 ((ep _).trans (q0g s9 (q0g sA rfl))), M ++ [(s, p)], .val (.int (j : Int)), .val (.lst (ys.map DV.int)), .val (dv p), .val (.int (s : Int)), ⟨by rw [List.length_append, hM]; rfl, λ x hx => ?_⟩, ?_⟩
    ·rcases List.mem_append.mp hx with z | z
     ·exact oM x z
     ·rw [List.mem_singleton.mp z]; exact ⟨hp, hs⟩
    ·unfold mxD; rw [List.map_append]; rfl) ⟨[], .no, .no, .no, .no, ⟨rfl, λ x hx => absurd hx (List.not_mem_nil)⟩, rfl⟩
  exact ⟨M, by omega, by omega, oM, q0g (q2S rfl) (q4J (q3Z (n := q) (q0a rfl) (by omega)) (.inr rfl) l1 (q1e (q0Z (cl := .top) (q3P rfl))))⟩
 have t := q0z (b_eq (G := G) (F := run G T fu (k + 13)) (δ := Sm ns rows xs ws q0 .no .no .no .no .no) (q1f (h61 (e := .var 2) (q0a rfl)) (q0c (i := 8)) (by decide)) (q0c (i := 1)))
 have tail : ∃ M : Mx, 0 < M.length /\ M.length <= 19 /\ Okm M /\ evSs G (run G T fu (k + 13)) fu (q1n.body.drop 3) (Sm ns rows xs ws q0 .no .no .no .no .no) = some (.rt (mxD M) true) := by
  cases z : (v61 % 8 == 1) with
  | false =>
   rw [z] at t
   obtain ⟨M, h1, h2, h3, h4⟩ := loop q0 (by omega) (by omega)
   exact ⟨M, h1, h2, h3, q1E t h4⟩
  | true =>
   rw [z] at t
   obtain ⟨M, h1, h2, h3, h4⟩ := loop 19 (by omega) (by omega)
   exact ⟨M, h1, h2, h3, q6M t (q0g (q0h (d := .int ((19 : Nat) : Int)) (cl := .strong) rfl rfl) rfl) h4⟩
 obtain ⟨M, h1, h2, h3, h4⟩ := tail
 refine ⟨M, h1, h2, h3, ?_⟩
 rw [q0E (fd := q1n) rfl rfl]
 unfold q1n at h4 ⊢
 refine q1k (q0g (q0h (d := .lst (xs.map DV.int)) (cl := .fresh) (q0k (fr := true) (l := [(.int v2, .strong), (.int ((70 : Nat) : Int), .strong)]) (q0b (q0k (fr := false) (q0b (q0a (d := .scr ns) rfl) (q0b (q0c (i := ((2 : Nat) : Int))) q0e)) rfl c2) (q0b q0c q0e)) rfl st) rfl)
  (q0g (q0h (d := .lst (ws.map DV.int)) (cl := .strong) (q0k (fr := false) (q0b (q0a rfl) q0e) rfl ew) rfl) (q0g (q0h (d := .int (q0 : Int)) (cl := .strong) (by rw [← hq0]; exact q1H q0c (q1f (h60 (q0a rfl)) q0c (by decide))) rfl) h4)))
end k61
end
section
namespace k61
open PySem L2
variable {fu k : Nat} {F : Nat -> List DV -> Option Ou} {δ : List Sv} {ds : List DV} {cl : Cl} {n m : Nat} {rows : List (List Int)}
theorem q7Y : ∀ p, deq (dv p) (dv p) = true
 | .fin v => by unfold dv; simp [deq, deqs]
 | .ask s o a b => by
  have h1 := q7Y a
  have h2 := q7Y b
  unfold dv
  cases s <;> simp [deq, deqs, side, h1, h2]
theorem q3X (n : Nat) (x : Str) (h : x.cps.all (· < 0x110000) = true) : DV.plain n (.str x) = true := by
 cases n <;> (unfold DV.plain; exact h)
theorem q4R : ∀ (p : Pl) (n : Nat), ht p < n -> (dv p).plain n = true
 | p, 0, h => absurd h (Nat.not_lt_zero _)
 | .fin v, n + 1, _ => by
  show DV.plains n [.str "end", .int v] = true
  have e : DV.plain n (.str "end") = true := q3X n _ (by decide +kernel)
  have e2 : DV.plain n (.int v) = true := by cases n <;> (unfold DV.plain; rfl)
  unfold DV.plains DV.plains DV.plains
  rw [e, e2]; rfl
 | .ask s o a b, n + 1, h => by
  unfold ht at h
  have h1 := q4R a n (by omega)
  have h2 := q4R b n (by omega)
  show DV.plains n [.str "ask", side s, .int o, dv a, dv b] = true
  have e : DV.plain n (.str "ask") = true := q3X n _ (by decide +kernel)
  have e1 : DV.plain n (side s) = true := by cases s <;> exact q3X n _ (by decide +kernel)
  have e2 : DV.plain n (.int o) = true := by cases n <;> (unfold DV.plain; rfl)
  unfold DV.plains DV.plains DV.plains DV.plains DV.plains DV.plains
  rw [e, e1, e2, h1, h2]; rfl
theorem q5I : ∀ {M : Mx}, Okm M -> DV.plains 59 (M.map pr) = true /\ deqs (M.map pr) (M.map pr) = true
 | [], _ => ⟨by unfold DV.plains; rfl, rfl⟩
 | p :: M, h => by
  obtain ⟨q1, q2⟩ := q5I (M := M) λ x hx => h x (List.mem_cons_of_mem _ hx)
  have hp := (h p (List.mem_cons_self ..)).1
  rw [List.map_cons]
  constructor
  ·have e : (pr p).plain 59 = true := by
    show DV.plains 58 [.int (p.1 : Int), dv p.2] = true
    unfold DV.plains DV.plains DV.plains
    rw [q4R p.2 58 (by omega)]
    rfl
   unfold DV.plains
   rw [e, q1]; rfl
  ·have e : deq (pr p) (pr p) = true := by
    show deq (.tup [.int (p.1 : Int), dv p.2]) (.tup [.int (p.1 : Int), dv p.2]) = true
    simp [deq, deqs, q7Y]
   unfold deqs
   rw [e, q2]; rfl
theorem z3M {M : Mx} (h : Okm M) : cmpD .NotEq (mxD M) (mxD M) = some false := by
 obtain ⟨q1, q2⟩ := q5I h
 show (if DV.plains 59 (M.map pr) && DV.plains 59 (M.map pr) then some (!deqs (M.map pr) (M.map pr)) else none) = _
 rw [q1, q2]
 rfl
noncomputable abbrev Sd (ns : List Int) (rows : List (List Int)) (M : Mx) (h : Sv) (a b c d e f : Sv) : List Sv := [.val (.scr ns), .val (tT rows), .val (mxD M), h, .val (.int ((tot M : Nat) : Int)), a, b, c, d, e, f]
theorem z0k {e : ME} {ds : List DV} (h : evE G F e δ = some (.ok (.lst ds) .strong)) : evE G F (.bi .list [e]) δ = some (.ok (.lst ds) .fresh) := by
 show Rs.thn (evEs G F [e] δ) (λ l => q6a l) = _
 rw [q0b h q0e]
 rfl
theorem cells {ns : List Int} {M : Mx} (R : Rect n m rows) (hn8 : n <= 8) (hm8 : m <= 8) (hM : Mix fu M) (hf : 400 <= fu) {b c d e f : Sv} {i : Nat} (hi : i < n) : ∃ b', evSs G (run G T fu (k + 4)) fu [.fo (.one 6) (.rng [.bi .len [.ix (.var 1) (.int 0)]]) [.iff (.not (.call 21 [.call 6 [.var 1, .var 3, .var 5, .var 6], .call 20 [.var 1, .var 2, .var 5, .var 6], .var 4])) [.ret (.bl false)] []]] (Sd ns rows M (.own (mxD M)) (.val (.int (i : Int))) b c d e f) = some (.nx (Sd ns rows M (.own (mxD M)) (.val (.int (i : Int))) b' c d e f)) := by
 have h1000 : M.length <= 1000 := by have := hM.len; omega
 obtain ⟨δ1, l1, b', rfl⟩ := q0Q (i := 6) (I := λ _ δ => ∃ b : Sv, δ = Sd ns rows M (.own (mxD M)) (.val (.int (i : Int))) b c d e f)
  (body := λ δ' => evSs G (run G T fu (k + 4)) fu [.iff (.not (.call 21 [.call 6 [.var 1, .var 3, .var 5, .var 6], .call 20 [.var 1, .var 2, .var 5, .var 6], .var 4])) [.ret (.bl false)] []] δ') m 0 (δ := Sd ns rows M (.own (mxD M)) (.val (.int (i : Int))) b c d e f)
  (λ j hj δ I => by
   obtain ⟨b, rfl⟩ := I
   rw [show (0 : Int) + (j : Int) = j by omega]
   have e1 := q3A (G := G) (F := run G T fu (k + 4)) (δ := Sd ns rows M (.own (mxD M)) (.val (.int (i : Int))) (.val (.int (j : Int))) c d e f) (f := 6) (es := [.var 1, .var 3, .var 5, .var 6]) (l := [(tT rows, .strong), (mxD M, .top), (.int (i : Int), .strong), (.int (j : Int), .strong)]) rfl rfl (z2B (k := k) R hi hj hM hf)
   have e2 := q0k (G := G) (F := run G T fu (k + 4)) (δ := Sd ns rows M (.own (mxD M)) (.val (.int (i : Int))) (.val (.int (j : Int))) c d e f) (f := 20) (es := [.var 1, .var 2, .var 5, .var 6]) (l := [(tT rows, .strong), (mxD M, .strong), (.int (i : Int), .strong), (.int (j : Int), .strong)]) rfl rfl (z3u (k := k + 2) R hi hj h1000 hM.low hf)
   have e3 := q3A (f := 21) (q0b e1 (q0b e2 (q0b (q0a (n := 4) (d := .int ((tot M : Nat) : Int)) rfl) q0e))) rfl (q3U (fu := fu) (k := k + 2) (q9i (rows := rows) hM i j) hM.top hM.pos hf)
   exact ⟨_, q1E (q0z (q4u e3)) rfl, .val (.int (j : Int)), rfl⟩) ⟨b, rfl⟩
 exact ⟨b', q4J (q3Z (n := m) (q7c R (by omega) (q0a rfl)) (by omega)) (.inr rfl) l1 rfl⟩
theorem z2i (ns : List Int) (hns : ns.length <= 63) : run G T 1000 60 24 [.scr ns] = some (.v (.bl true) false) := by
 obtain ⟨n, m, rows, hn, n8, hm, m8, R, et⟩ := z1Y (fu := 1000) (k := 57) ns hns
 obtain ⟨M, M0, M19, oM, em⟩ := z5k (fu := 1000) (k := 45) ns R hn hm n8 m8
 have hM : Mix 1000 M := z0K oM (by omega) M0
 have hf : 400 <= 1000 := by decide
 obtain ⟨v2, c2⟩ := q6Z (fu := 1000) (k := 58) ns 2
 obtain ⟨xs, hx, st⟩ := q5c (fu := 1000) (k := 58) v2 2 (by decide)
 obtain ⟨a0, h0⟩ := q4g (xs := xs) (i := 0) (by omega) (by rw [hx]; omega)
 obtain ⟨a1, h1⟩ := q4g (xs := xs) (i := 1) (by omega) (by rw [hx]; omega)
 have lp1 := q0Q (i := 5) (I := λ _ δ => ∃ a b : Sv, δ = Sd ns rows M (.own (mxD M)) a b .no .no .no .no)
  (body := λ δ' => evSs G (run G T 1000 59) 1000 [.fo (.one 6) (.rng [.bi .len [.ix (.var 1) (.int 0)]]) [.iff (.not (.call 21 [.call 6 [.var 1, .var 3, .var 5, .var 6], .call 20 [.var 1, .var 2, .var 5, .var 6], .var 4])) [.ret (.bl false)] []]] δ') n 0 (δ := Sd ns rows M (.own (mxD M)) .no .no .no .no .no .no)
  (λ j hj δ I => by
   obtain ⟨a, b, rfl⟩ := I
   rw [show (0 : Int) + (j : Int) = j by omega]
   obtain ⟨b', e⟩ := cells (fu := 1000) (k := 55) (ns := ns) R n8 m8 hM hf (b := b) (c := .no) (d := .no) (e := .no) (f := .no) hj
   exact ⟨_, e, _, _, rfl⟩) ⟨.no, .no, rfl⟩
 obtain ⟨i, j, hi, hj, el, ew⟩ := q7T (fu := 1000) (k := 55) R hn hm n8 m8 hM hf
 have lw := q3S (fu := 1000) (k := 56) R hn hm n8 m8 hM hf el
 have o5 : ∀ a b : Sv, tstD (evE G (run G T 1000 59) (.or [.not (.call 23 [.call 7 [.var 1, .var 3], .var 1, .var 2, .var 4]), .cmp .NotEq (.var 3) (.var 2)]) (Sd ns rows M (.own (mxD M)) a b .no .no .no .no)) = some (.ok false) := λ a b => by
  have e1 := q3A (G := G) (F := run G T 1000 59) (δ := Sd ns rows M (.own (mxD M)) a b .no .no .no .no) (f := 7) (es := [.var 1, .var 3]) (l := [(tT rows, .strong), (mxD M, .top)]) rfl rfl ew
  have e2 := q3A (f := 23) (q0b e1 (q0b (q0a (n := 1) (d := tT rows) rfl) (q0b (q0a (n := 2) (d := mxD M) rfl) (q0b (q0a (n := 4) (d := .int ((tot M : Nat) : Int)) rfl) q0e)))) rfl lw
  exact q0z (q9k (q4u e2) (q1P (cx := .top) (q3P rfl) (q0a rfl) (z3M oM)))
 let bodyB : List MS := [.set 9 false (.lst [.bin .Sub (.neg (.int 1)) (.bin .Mod (.ix (.var 7) (.int 0)) (.int 9)), .ix (.lst [.bi .len [.var 1], .bi .len [.ix (.var 1) (.int 0)]]) (.var 8), .int 10, .bl true, .non, .str "0", .lst [.int 0]]), .set 10 true (.lst [.int 0, .int 0]), .seti 10 (.var 8) (.ix (.var 9) (.bin .Mod (.ix (.var 7) (.int 1)) (.int 7))), .iff (.not (.call 22 [.var 1, .var 2, .ix (.var 10) (.int 0), .ix (.var 10) (.int 1)])) [.ret (.bl false)] []]
 have lp2 : ∀ a b : Sv, ∃ δ', q1y (.one 8) (λ δ' => evSs G (run G T 1000 59) 1000 bodyB δ') (upTo 0 2) (Sd ns rows M (.own (mxD M)) a b (.val (.lst (xs.map DV.int))) .no .no .no) = some (.nx δ') /\ ∃ x y z : Sv, δ' = Sd ns rows M (.own (mxD M)) a b (.val (.lst (xs.map DV.int))) x y z := λ a b =>
  q0Q (i := 8) (I := λ _ δ => ∃ x y z : Sv, δ = Sd ns rows M (.own (mxD M)) a b (.val (.lst (xs.map DV.int))) x y z) 2 0
  (λ j hj δ I => by
   obtain ⟨x, y, z, rfl⟩ := I
   rw [show (0 : Int) + (j : Int) = j by omega]
   have th : ∀ (s : Nat) (hs : s <= 8) (hat : ixD (.lst [.int (n : Int), .int (m : Int)]) (.int (j : Int)) = some (.int (s : Int))), evS G (run G T 1000 59) 1000 (.set 9 false (.lst [.bin .Sub (.neg (.int 1)) (.bin .Mod (.ix (.var 7) (.int 0)) (.int 9)), .ix (.lst [.bi .len [.var 1], .bi .len [.ix (.var 1) (.int 0)]]) (.var 8), .int 10, .bl true, .non, .str "0", .lst [.int 0]])) (Sd ns rows M (.own (mxD M)) a b (.val (.lst (xs.map DV.int))) (.val (.int (j : Int))) y z) = some (.nx (Sd ns rows M (.own (mxD M)) a b (.val (.lst (xs.map DV.int))) (.val (.int (j : Int))) (.val (.lst (q4s a0 s))) z)) := λ s hs hat =>
    q0h (cl := .fresh) (q6A (l := [(.int (-1 - a0 % 9), .strong), (.int (s : Int), .strong), (.int 10, .strong), (.bl true, .strong), (.non, .strong), (.str "0", .strong), (.lst [.int 0], .fresh)]) (q0b (q7w (i := -1) (cx := .strong) rfl (q1f (h0 (q0a rfl)) q0c (by decide))) (q0b (q0F (cx := .fresh) (q6A (q0b (lenT R (q0a rfl)) (q0b (q7c R hn (q0a rfl)) q0e)) (show 2 <= mostLen by decide) rfl) (q0a rfl) hat) rfl)) (show 7 <= mostLen by decide) rfl) rfl
   have hj2 : j = 0 \/ j = 1 := by omega
   rcases hj2 with rfl | rfl
   ·obtain ⟨d, hd, ed⟩ := q5L a0 a1 n
    have rb := q5m (q3K (fu := 1000) (k := 55) (x := mxD M) (b := .int 0) (t := false) R hn (q4m n8 d hd) (λ z => by cases z))
    exact ⟨_, q0g (th n n8 rfl) (q0g (q2S rfl) (q0g (q6h (ds := [.int 0, .int 0]) (d := d) (cl := .strong) (n := 0) (cx := .strong) (j := 0) rfl (q0F (cx := .strong) (q0a rfl) (q1f (h1 (q0a rfl)) q0c (by decide)) ed) (q0a rfl) rfl rfl) (q1E (q0z (q4u (q0k (fr := false) (l := [(tT rows, .strong), (mxD M, .strong), (d, .strong), (.int 0, .strong)]) rfl rfl rb))) rfl))), _, _, _, rfl⟩
   ·obtain ⟨d, hd, ed⟩ := q5L a0 a1 m
    have i0 := q4E (fu := 1000) (k := 55) (x := 0) (a := 0) (b := (n : Int) - 1)
    rw [decide_eq_true (p := (0 : Int) <= 0) (by omega), decide_eq_true (p := (0 : Int) <= (n : Int) - 1) (by omega)] at i0
    have rb := q5m (q3K (fu := 1000) (k := 55) (x := mxD M) (a := .int 0) (b := d) (t := true) R hn i0 (λ _ => q4m m8 d hd))
    exact ⟨_, q0g (th m m8 rfl) (q0g (q2S rfl) (q0g (q6h (ds := [.int 0, .int 0]) (d := d) (cl := .strong) (n := 1) (cx := .strong) (j := 1) rfl (q0F (cx := .strong) (q0a rfl) (q1f (h1 (q0a rfl)) q0c (by decide)) ed) (q0a rfl) rfl rfl) (q1E (q0z (q4u (q0k (fr := false) (l := [(tT rows, .strong), (mxD M, .strong), (.int 0, .strong), (d, .strong)]) rfl rfl rb))) rfl))), _, _, _, rfl⟩) ⟨.no, .no, .no, rfl⟩
 obtain ⟨M', hM', tt, eM⟩ : ∃ M' : Mx, Mix 1000 M' /\ tot M' = tot M + 3 /\ DV.lst (M.map pr ++ [pr (3, .fin (at2 rows 0 0))]) = mxD M' := by
  refine ⟨M ++ [(3, .fin (at2 rows 0 0))], z0K (λ x hx => ?_) (by rw [List.length_append, List.length_singleton]; omega) (by rw [List.length_append, List.length_singleton]; omega), by unfold tot; rw [List.map_append, List.sum_append]; rfl, by unfold mxD; rw [List.map_append]; rfl⟩
  rcases List.mem_append.mp hx with z | z
  ·exact oM x z
  ·rw [List.mem_singleton.mp z]; exact ⟨Nat.zero_le _, show 1 <= 3 by decide, show 3 < 2 ^ 75 by decide⟩
 obtain ⟨i', j', _, _, el', ew'⟩ := q7T (fu := 1000) (k := 55) R hn hm n8 m8 hM' hf
 have lw' := q3S (fu := 1000) (k := 56) R hn hm n8 m8 hM' hf el'
 rw [q0E (fd := q9z) rfl rfl]
 unfold q9z
 refine q1k (q0g (q0h (d := tT rows) (cl := .strong) (q0k (fr := false) (q0b (q0a rfl) (q0b q0c (q0b q0c q0e))) rfl et) rfl) (q0g (q0h (d := mxD M) (cl := .fresh) (q0k (fr := true) (q0b (q0a rfl) (q0b (q0a rfl) q0e)) rfl em) rfl)
  (q0g (q2S (z0k (q0a rfl))) (q0g (q0h (q8M (M := M) (by omega) (cl := .strong) rfl (by decide)) rfl)
  (q6E (q3Z (n := n) (lenT R (q0a rfl)) (by omega)) (.inr rfl) lp1 λ δ' q => ?_)))))
 obtain ⟨a, b, rfl⟩ := q
 refine q1E (o5 a b) (q0g (q0h (d := .lst (xs.map DV.int)) (cl := .fresh) (q0k (fr := true) (l := [(.int v2, .strong), (.int ((2 : Nat) : Int), .strong)]) (q0b (q0k (fr := false) (q0b (q0a (d := .scr ns) rfl) (q0b (q0c (i := ((2 : Nat) : Int))) q0e)) rfl c2) (q0b q0c q0e)) rfl st) rfl)
  (q6E (q3Z (n := 2) q0c (by decide)) (.inr rfl) (lp2 a b) λ δ' q => ?_))
 obtain ⟨x, y, z, rfl⟩ := q
 have ea : evE G (run G T 1000 59) (.ix (.ix (.var 1) (.int 0)) (.int 0)) (Sd ns rows M (.own (mxD M)) a b (.val (.lst (xs.map DV.int))) x y z) = some (.ok (.int (at2 rows 0 0)) .strong) := z3f (i := 0) (j := 0) (ci := .strong) (cj := .strong) R (q0a rfl) (q0c (i := ((0 : Nat) : Int))) (q0c (i := ((0 : Nat) : Int))) hn hm
 have et3 : evE G (run G T 1000 59) (.tup [.int 3, .tup [.str "end", .ix (.ix (.var 1) (.int 0)) (.int 0)]]) (Sd ns rows M (.own (mxD M)) a b (.val (.lst (xs.map DV.int))) x y z) = some (.ok (pr (3, .fin (at2 rows 0 0))) .strong) := q5h (l := [(.int 3, .strong), (dv (.fin (at2 rows 0 0)), .strong)]) (q0b q0c (q0b (q6S ea) q0e)) (show 2 <= mostLen by decide) rfl
 have ml : (M.map pr).length < mostLen := by rw [List.length_map]; exact Nat.lt_of_lt_of_le (show M.length < 1000 by omega) (by decide)
 refine q0g (q5g (ds := M.map pr) (d := pr (3, .fin (at2 rows 0 0))) (cl := .strong) rfl et3 rfl ml) ?_
 rw [eM]
 have lwz : run G T 1000 59 23 [wrst (rf rows M' i' j') (tot M') i' j', tT rows, mxD M', .int (((tot M : Nat) : Int) + 3)] = some (.v (.bl true) false) := by
  rw [show ((tot M : Nat) : Int) + 3 = ((tot M' : Nat) : Int) by rw [tt]; push_cast; rfl]; exact lw'
 have c7 := q0k (G := G) (F := run G T 1000 59) (δ := Sd ns rows M (.val (mxD M')) a b (.val (.lst (xs.map DV.int))) x y z) (f := 7) (es := [.var 1, .var 3]) (fr := false) (l := [(tT rows, .strong), (mxD M', .strong)]) rfl rfl ew'
 exact q0g (δ' := Sd ns rows M (.val (mxD M')) a b (.val (.lst (xs.map DV.int))) x y z) rfl (q1e (q0Z (cl := .strong) (q0k (fr := false) (q0b c7 (q0b (q0a rfl) (q0b (q0a rfl) (q0b (q1H (q0a rfl) q0c) q0e)))) rfl lwz)))
end k61
end
section
namespace k61
open PySem L2 PySem.Spec PyProof.Rows
noncomputable def top (i : Nat) : Stmt := PySem.Challenge.pw_talkleast_k61_right_shares.main.body.getD i (.Pass ⟨0, 0, 0, 0⟩)
theorem lnS {α : Type} {us : List α} {n : Nat} (h : us.length = n + 1) : ∃ a r, us = a :: r /\ r.length = n := by cases us with | nil => cases h | cons a r => exact ⟨a, r, rfl, Nat.succ.inj h⟩
theorem fmc {α : Type} {p : α -> Prop} {a : α} {l : List α} (h : p a) (r : ∀ x ∈ l, p x) : ∀ x ∈ a :: l, p x := List.forall_mem_cons.mpr ⟨h, r⟩
theorem ln0 {α : Type} {us : List α} (h : us.length = 0) : us = [] := List.length_eq_zero_iff.mp h
theorem ln1 {α : Type} {us : List α} (h : us.length = 1) : ∃ a0, us = [a0] := by obtain ⟨_, _, rfl, h0⟩ := lnS h; obtain rfl := ln0 h0; exact ⟨_, rfl⟩
theorem ln2 {α : Type} {us : List α} (h : us.length = 2) : ∃ a0 a1, us = [a0, a1] := by obtain ⟨_, _, rfl, h0⟩ := lnS h; obtain ⟨_, _, rfl, h1⟩ := lnS h0; obtain rfl := ln0 h1; exact ⟨_, _, rfl⟩
theorem ln3 {α : Type} {us : List α} (h : us.length = 3) : ∃ a0 a1 a2, us = [a0, a1, a2] := by obtain ⟨_, _, rfl, h0⟩ := lnS h; obtain ⟨_, _, rfl, h1⟩ := lnS h0; obtain ⟨_, _, rfl, h2⟩ := lnS h1; obtain rfl := ln0 h2; exact ⟨_, _, _, rfl⟩
theorem ln4 {α : Type} {us : List α} (h : us.length = 4) : ∃ a0 a1 a2 a3, us = [a0, a1, a2, a3] := by obtain ⟨_, _, rfl, h0⟩ := lnS h; obtain ⟨_, _, rfl, h1⟩ := lnS h0; obtain ⟨_, _, rfl, h2⟩ := lnS h1; obtain ⟨_, _, rfl, h3⟩ := lnS h2; obtain rfl := ln0 h3; exact ⟨_, _, _, _, rfl⟩
noncomputable def fn : List Str := ["is_int", "in_lowest_terms", "common_divisor", "check_card", "way", "reached", "right_share", "worst_share", "right_sum", "share_of", "_law_int", "_law_cell_at", "_law_stream", "_law_full_table", "_law_words", "_law_drawn_plan", "_law_few_words", "_law_reached", "_law_long_plan", "_law_mix", "_law_top", "_law_share", "_law_refused", "_law_worst", "law"]
noncomputable def bl : List Str := ["isinstance", "int", "bool", "abs", "len", "range", "min", "sum", "tuple", "list", "ValueError"]
noncomputable def cl : List Str := ["TalkError", "NoTable", "NoCard", "NoPlan"]
theorem ok0 : okD fn bl cl q2v ["thing", "least", "most"] ["thing", "least", "most"] (top 1) = true := by decide +kernel
theorem ok1 : okD fn bl cl q0W ["numbers", "divisor", "number"] ["numbers"] (top 2) = true := by decide +kernel
theorem ok2 : okD fn bl cl q1b ["one", "other", "greater", "lesser", "rest"] ["one", "other"] (top 3) = true := by decide +kernel
theorem ok3 : okD fn bl cl q1L ["card", "size"] ["card", "size"] (top 10) = true := by decide +kernel
theorem ok4 : okD fn bl cl z0b ["plan", "row", "column", "bits", "place", "card", "bit"] ["plan", "row", "column"] (top 12) = true := by decide +kernel
theorem ok5 : okD fn bl cl q2Q ["plan", "row", "column"] ["plan", "row", "column"] (top 13) = true := by decide +kernel
theorem ok6 : okD fn bl cl q0S ["table", "mix", "row", "column"] ["table", "mix", "row", "column"] (top 15) = true := by decide +kernel
theorem ok7 : okD fn bl cl q1z ["table", "mix", "sums", "row", "worst"] ["table", "mix"] (top 16) = true := by decide +kernel
theorem ok8 : okD fn bl cl q2i ["table", "mix", "row", "column"] ["table", "mix", "row", "column"] (top 17) = true := by decide +kernel
theorem ok9 : okD fn bl cl q2y ["mix", "top"] ["mix", "top"] (top 18) = true := by decide +kernel
theorem ok10 : okD fn bl cl q2x ["_law_found"] ["_law_found"] (top 20) = true := by decide +kernel
theorem ok11 : okD fn bl cl q1r ["_law_script", "_law_k"] ["_law_script", "_law_k"] (top 21) = true := by decide +kernel
theorem ok12 : okD fn bl cl q0U ["_law_cell", "_law_many", "_law_found", "_law_number", "_law_k"] ["_law_cell", "_law_many"] (top 22) = true := by decide +kernel
theorem ok13 : okD fn bl cl q0X ["_law_script", "_law_start", "_law_most", "_law_xs", "_law_many", "_law_wide", "_law_top_here", "_law_words_here", "_law_k"] ["_law_script", "_law_start", "_law_most"] (top 23) = true := by decide +kernel
theorem ok14 : okD fn bl cl q1M ["_law_table", "_law_words_here", "_law_row"] ["_law_table"] (top 24) = true := by decide +kernel
theorem ok15 : okD fn bl cl q0T ["_law_xs", "_law_at", "_law_room", "_law_number", "_law_no", "_law_yes"] ["_law_xs", "_law_at", "_law_room"] (top 25) = true := by decide +kernel
theorem ok16 : okD fn bl cl q0C ["_law_plan", "_law_words_here"] ["_law_plan", "_law_words_here"] (top 26) = true := by decide +kernel
theorem ok17 : okD fn bl cl q1q ["_law_plan", "_law_row", "_law_column", "_law_card"] ["_law_plan", "_law_row", "_law_column"] (top 27) = true := by decide +kernel
theorem ok18 : okD fn bl cl q1a ["_law_xs", "_law_words_here", "_law_plan", "_law_k", "_law_other", "_law_both"] ["_law_xs", "_law_words_here"] (top 28) = true := by decide +kernel
theorem ok19 : okD fn bl cl q1n ["_law_script", "_law_table", "_law_xs", "_law_words_here", "_law_many", "_law_mix_here", "_law_k", "_law_ys", "_law_plan", "_law_share_here"] ["_law_script", "_law_table"] (top 29) = true := by decide +kernel
theorem ok20 : okD fn bl cl q2z ["_law_table", "_law_mix_here", "_law_r", "_law_c"] ["_law_table", "_law_mix_here", "_law_r", "_law_c"] (top 30) = true := by decide +kernel
theorem ok21 : okD fn bl cl q1O ["_law_found", "_law_top_here", "_law_bottom", "_law_here", "_law_rest"] ["_law_found", "_law_top_here", "_law_bottom"] (top 31) = true := by decide +kernel
theorem ok22 : okD fn bl cl q1p ["_law_table", "_law_mix_here", "_law_row", "_law_column", "_law_caught", "error"] ["_law_table", "_law_mix_here", "_law_row", "_law_column"] (top 32) = true := by decide +kernel
theorem ok23 : okD fn bl cl q1N ["_law_found", "_law_table", "_law_mix_here", "_law_bottom", "_law_pairs", "_law_r", "_law_least"] ["_law_found", "_law_table", "_law_mix_here", "_law_bottom"] (top 33) = true := by decide +kernel
theorem ok24 : okD fn bl cl q9z ["_law_script", "_law_table", "_law_mix_here", "_law_handed", "_law_bottom", "_law_r", "_law_c", "_law_xs", "_law_side", "_law_things", "_law_bad"] ["_law_script"] (top 34) = true := by decide +kernel
open PySem.W
theorem all_mk {l : OpenLaw} {w : World} {K : Frag} {h : Heap} {mg : Str -> Option Value} {fa f0 f1 f2 f3 f4 f5 f6 f7 f8 f9 f10 f11 f12 f13 f14 f15 f16 f17 f18 f19 f20 f21 f22 f23 f24 : Addr} (X : K.In h) (Ns : h.Ns mainGlobals mg) (hfa : mg "law" = some (.ref fa))
  {od0 an0 od1 an1 od2 an2 od3 an3 od4 an4 od5 an5 od6 an6 od7 an7 od8 an8 od9 an9 od10 an10 od11 an11 od12 an12 od13 an13 od14 an14 od15 an15 od16 an16 od17 an17 od18 an18 od19 an19 od20 an20 od21 an21 od22 an22 od23 an23 od24 an24 : Option Addr} {sl0 sl1 sl2 sl3 sl4 sl5 sl6 sl7 sl8 sl9 sl10 sl11 sl12 sl13 sl14 sl15 sl16 sl17 sl18 sl19 sl20 sl21 sl22 sl23 sl24 : Array (Option Value)} {oc0 kV0 dc0 pm0 cd0 ct0 oc1 kV1 dc1 pm1 cd1 ct1 oc2 kV2 dc2 pm2 cd2 ct2 oc3 kV3 dc3 pm3 cd3 ct3 oc4 kV4 dc4 pm4 cd4 ct4 oc5 kV5 dc5 pm5 cd5 ct5 oc6 kV6 dc6 pm6 cd6 ct6 oc7 kV7 dc7 pm7 cd7 ct7 oc8 kV8 dc8 pm8 cd8 ct8 oc9 kV9 dc9 pm9 cd9 ct9 oc10 kV10 dc10 pm10 cd10 ct10 oc11 kV11 dc11 pm11 cd11 ct11 oc12 kV12 dc12 pm12 cd12 ct12 oc13 kV13 dc13 pm13 cd13 ct13 oc14 kV14 dc14 pm14 cd14 ct14 oc15 kV15 dc15 pm15 cd15 ct15 oc16 kV16 dc16 pm16 cd16 ct16 oc17 kV17 dc17 pm17 cd17 ct17 oc18 kV18 dc18 pm18 cd18 ct18 oc19 kV19 dc19 pm19 cd19 ct19 oc20 kV20 dc20 pm20 cd20 ct20 oc21 kV21 dc21 pm21 cd21 ct21 oc22 kV22 dc22 pm22 cd22 ct22 oc23 kV23 dc23 pm23 cd23 ct23 oc24 kV24 dc24 pm24 cd24 ct24 : Value}
  (a0 : nsIn K mainGlobals "is_int" = some (some (.ref f0))) (l0 : K.lookup f0 = some ⟨oc0, od0, .func (fnOf "is_int" "is_int" (q0o (top 1)) (q0m (top 1)) (q0d (top 1)) .none kV0 dc0 pm0 an0 cd0 ct0), sl0⟩) (c0 : codeIn K cd0 "is_int" = true) (k0 : keepIn K (.ref f0) = true)
  (a1 : nsIn K mainGlobals "in_lowest_terms" = some (some (.ref f1))) (l1 : K.lookup f1 = some ⟨oc1, od1, .func (fnOf "in_lowest_terms" "in_lowest_terms" (q0o (top 2)) (q0m (top 2)) (q0d (top 2)) .none kV1 dc1 pm1 an1 cd1 ct1), sl1⟩) (c1 : codeIn K cd1 "in_lowest_terms" = true) (k1 : keepIn K (.ref f1) = true)
  (a2 : nsIn K mainGlobals "common_divisor" = some (some (.ref f2))) (l2 : K.lookup f2 = some ⟨oc2, od2, .func (fnOf "common_divisor" "common_divisor" (q0o (top 3)) (q0m (top 3)) (q0d (top 3)) .none kV2 dc2 pm2 an2 cd2 ct2), sl2⟩) (c2 : codeIn K cd2 "common_divisor" = true) (k2 : keepIn K (.ref f2) = true)
  (a3 : nsIn K mainGlobals "check_card" = some (some (.ref f3))) (l3 : K.lookup f3 = some ⟨oc3, od3, .func (fnOf "check_card" "check_card" (q0o (top 10)) (q0m (top 10)) (q0d (top 10)) .none kV3 dc3 pm3 an3 cd3 ct3), sl3⟩) (c3 : codeIn K cd3 "check_card" = true) (k3 : keepIn K (.ref f3) = true)
  (a4 : nsIn K mainGlobals "way" = some (some (.ref f4))) (l4 : K.lookup f4 = some ⟨oc4, od4, .func (fnOf "way" "way" (q0o (top 12)) (q0m (top 12)) (q0d (top 12)) .none kV4 dc4 pm4 an4 cd4 ct4), sl4⟩) (c4 : codeIn K cd4 "way" = true) (k4 : keepIn K (.ref f4) = true)
  (a5 : nsIn K mainGlobals "reached" = some (some (.ref f5))) (l5 : K.lookup f5 = some ⟨oc5, od5, .func (fnOf "reached" "reached" (q0o (top 13)) (q0m (top 13)) (q0d (top 13)) .none kV5 dc5 pm5 an5 cd5 ct5), sl5⟩) (c5 : codeIn K cd5 "reached" = true) (k5 : keepIn K (.ref f5) = true)
  (a6 : nsIn K mainGlobals "right_share" = some (some (.ref f6))) (l6 : K.lookup f6 = some ⟨oc6, od6, .func (fnOf "right_share" "right_share" (q0o (top 15)) (q0m (top 15)) (q0d (top 15)) .none kV6 dc6 pm6 an6 cd6 ct6), sl6⟩) (c6 : codeIn K cd6 "right_share" = true) (k6 : keepIn K (.ref f6) = true)
  (a7 : nsIn K mainGlobals "worst_share" = some (some (.ref f7))) (l7 : K.lookup f7 = some ⟨oc7, od7, .func (fnOf "worst_share" "worst_share" (q0o (top 16)) (q0m (top 16)) (q0d (top 16)) .none kV7 dc7 pm7 an7 cd7 ct7), sl7⟩) (c7 : codeIn K cd7 "worst_share" = true) (k7 : keepIn K (.ref f7) = true)
  (a8 : nsIn K mainGlobals "right_sum" = some (some (.ref f8))) (l8 : K.lookup f8 = some ⟨oc8, od8, .func (fnOf "right_sum" "right_sum" (q0o (top 17)) (q0m (top 17)) (q0d (top 17)) .none kV8 dc8 pm8 an8 cd8 ct8), sl8⟩) (c8 : codeIn K cd8 "right_sum" = true) (k8 : keepIn K (.ref f8) = true)
  (a9 : nsIn K mainGlobals "share_of" = some (some (.ref f9))) (l9 : K.lookup f9 = some ⟨oc9, od9, .func (fnOf "share_of" "share_of" (q0o (top 18)) (q0m (top 18)) (q0d (top 18)) .none kV9 dc9 pm9 an9 cd9 ct9), sl9⟩) (c9 : codeIn K cd9 "share_of" = true) (k9 : keepIn K (.ref f9) = true)
  (a10 : nsIn K mainGlobals "_law_int" = some (some (.ref f10))) (l10 : K.lookup f10 = some ⟨oc10, od10, .func (fnOf "_law_int" "_law_int" (q0o (top 20)) (q0m (top 20)) (q0d (top 20)) .none kV10 dc10 pm10 an10 cd10 ct10), sl10⟩) (c10 : codeIn K cd10 "_law_int" = true) (k10 : keepIn K (.ref f10) = true)
  (a11 : nsIn K mainGlobals "_law_cell_at" = some (some (.ref f11))) (l11 : K.lookup f11 = some ⟨oc11, od11, .func (fnOf "_law_cell_at" "_law_cell_at" (q0o (top 21)) (q0m (top 21)) (q0d (top 21)) .none kV11 dc11 pm11 an11 cd11 ct11), sl11⟩) (c11 : codeIn K cd11 "_law_cell_at" = true) (k11 : keepIn K (.ref f11) = true)
  (a12 : nsIn K mainGlobals "_law_stream" = some (some (.ref f12))) (l12 : K.lookup f12 = some ⟨oc12, od12, .func (fnOf "_law_stream" "_law_stream" (q0o (top 22)) (q0m (top 22)) (q0d (top 22)) .none kV12 dc12 pm12 an12 cd12 ct12), sl12⟩) (c12 : codeIn K cd12 "_law_stream" = true) (k12 : keepIn K (.ref f12) = true)
  (a13 : nsIn K mainGlobals "_law_full_table" = some (some (.ref f13))) (l13 : K.lookup f13 = some ⟨oc13, od13, .func (fnOf "_law_full_table" "_law_full_table" (q0o (top 23)) (q0m (top 23)) (q0d (top 23)) .none kV13 dc13 pm13 an13 cd13 ct13), sl13⟩) (c13 : codeIn K cd13 "_law_full_table" = true) (k13 : keepIn K (.ref f13) = true)
  (a14 : nsIn K mainGlobals "_law_words" = some (some (.ref f14))) (l14 : K.lookup f14 = some ⟨oc14, od14, .func (fnOf "_law_words" "_law_words" (q0o (top 24)) (q0m (top 24)) (q0d (top 24)) .none kV14 dc14 pm14 an14 cd14 ct14), sl14⟩) (c14 : codeIn K cd14 "_law_words" = true) (k14 : keepIn K (.ref f14) = true)
  (a15 : nsIn K mainGlobals "_law_drawn_plan" = some (some (.ref f15))) (l15 : K.lookup f15 = some ⟨oc15, od15, .func (fnOf "_law_drawn_plan" "_law_drawn_plan" (q0o (top 25)) (q0m (top 25)) (q0d (top 25)) .none kV15 dc15 pm15 an15 cd15 ct15), sl15⟩) (c15 : codeIn K cd15 "_law_drawn_plan" = true) (k15 : keepIn K (.ref f15) = true)
  (a16 : nsIn K mainGlobals "_law_few_words" = some (some (.ref f16))) (l16 : K.lookup f16 = some ⟨oc16, od16, .func (fnOf "_law_few_words" "_law_few_words" (q0o (top 26)) (q0m (top 26)) (q0d (top 26)) .none kV16 dc16 pm16 an16 cd16 ct16), sl16⟩) (c16 : codeIn K cd16 "_law_few_words" = true) (k16 : keepIn K (.ref f16) = true)
  (a17 : nsIn K mainGlobals "_law_reached" = some (some (.ref f17))) (l17 : K.lookup f17 = some ⟨oc17, od17, .func (fnOf "_law_reached" "_law_reached" (q0o (top 27)) (q0m (top 27)) (q0d (top 27)) .none kV17 dc17 pm17 an17 cd17 ct17), sl17⟩) (c17 : codeIn K cd17 "_law_reached" = true) (k17 : keepIn K (.ref f17) = true)
  (a18 : nsIn K mainGlobals "_law_long_plan" = some (some (.ref f18))) (l18 : K.lookup f18 = some ⟨oc18, od18, .func (fnOf "_law_long_plan" "_law_long_plan" (q0o (top 28)) (q0m (top 28)) (q0d (top 28)) .none kV18 dc18 pm18 an18 cd18 ct18), sl18⟩) (c18 : codeIn K cd18 "_law_long_plan" = true) (k18 : keepIn K (.ref f18) = true)
  (a19 : nsIn K mainGlobals "_law_mix" = some (some (.ref f19))) (l19 : K.lookup f19 = some ⟨oc19, od19, .func (fnOf "_law_mix" "_law_mix" (q0o (top 29)) (q0m (top 29)) (q0d (top 29)) .none kV19 dc19 pm19 an19 cd19 ct19), sl19⟩) (c19 : codeIn K cd19 "_law_mix" = true) (k19 : keepIn K (.ref f19) = true)
  (a20 : nsIn K mainGlobals "_law_top" = some (some (.ref f20))) (l20 : K.lookup f20 = some ⟨oc20, od20, .func (fnOf "_law_top" "_law_top" (q0o (top 30)) (q0m (top 30)) (q0d (top 30)) .none kV20 dc20 pm20 an20 cd20 ct20), sl20⟩) (c20 : codeIn K cd20 "_law_top" = true) (k20 : keepIn K (.ref f20) = true)
  (a21 : nsIn K mainGlobals "_law_share" = some (some (.ref f21))) (l21 : K.lookup f21 = some ⟨oc21, od21, .func (fnOf "_law_share" "_law_share" (q0o (top 31)) (q0m (top 31)) (q0d (top 31)) .none kV21 dc21 pm21 an21 cd21 ct21), sl21⟩) (c21 : codeIn K cd21 "_law_share" = true) (k21 : keepIn K (.ref f21) = true)
  (a22 : nsIn K mainGlobals "_law_refused" = some (some (.ref f22))) (l22 : K.lookup f22 = some ⟨oc22, od22, .func (fnOf "_law_refused" "_law_refused" (q0o (top 32)) (q0m (top 32)) (q0d (top 32)) .none kV22 dc22 pm22 an22 cd22 ct22), sl22⟩) (c22 : codeIn K cd22 "_law_refused" = true) (k22 : keepIn K (.ref f22) = true)
  (a23 : nsIn K mainGlobals "_law_worst" = some (some (.ref f23))) (l23 : K.lookup f23 = some ⟨oc23, od23, .func (fnOf "_law_worst" "_law_worst" (q0o (top 33)) (q0m (top 33)) (q0d (top 33)) .none kV23 dc23 pm23 an23 cd23 ct23), sl23⟩) (c23 : codeIn K cd23 "_law_worst" = true) (k23 : keepIn K (.ref f23) = true)
  (a24 : nsIn K mainGlobals "law" = some (some (.ref f24))) (l24 : K.lookup f24 = some ⟨oc24, od24, .func (fnOf "law" "law" (q0o (top 34)) (q0m (top 34)) (q0d (top 34)) .none kV24 dc24 pm24 an24 cd24 ct24), sl24⟩) (c24 : codeIn K cd24 "law" = true) (k24 : keepIn K (.ref f24) = true)
  (z0 : nsIn K mainGlobals "isinstance" = some none)
  (z1 : nsIn K mainGlobals "int" = some none)
  (z2 : nsIn K mainGlobals "bool" = some none)
  (z3 : nsIn K mainGlobals "abs" = some none)
  (z4 : nsIn K mainGlobals "len" = some none)
  (z5 : nsIn K mainGlobals "range" = some none)
  (z6 : nsIn K mainGlobals "min" = some none)
  (z7 : nsIn K mainGlobals "sum" = some none)
  (z8 : nsIn K mainGlobals "tuple" = some none)
  (z9 : nsIn K mainGlobals "list" = some none)
  (z10 : nsIn K mainGlobals "ValueError" = some none)
  {C0 C1 C2 C3 : Addr}
  (xa0 : nsIn K mainGlobals "TalkError" = some (some (.ref C0))) (xg0 : findIn K (.ref C0) "__getattribute__" = some (some (.builtin "BaseException.__getattribute__"))) (xh0 : hasDictIn K C0 = true) (xf0 : findIn K (.ref C0) "__class__" = some (some (.builtin "object.__class__"))) (xm0 : mroIn K C0 (.type "object") = some true)
  (xe0 : excIn K C0 [.type "ValueError", .type "Exception", .type "BaseException", .type "object"] "ValueError.__new__" = true) (xv0 : kitOne K (.ref C0) (.type "ValueError") = some true)
  (xk0_0 : kitOne K (.ref C0) (.ref C0) = some true) (xx0_0 : exmOne K (.ref C0) (.ref C0) = some true)
  (xk0_1 : kitOne K (.ref C0) (.ref C1) = some false)
  (xk0_2 : kitOne K (.ref C0) (.ref C2) = some false)
  (xk0_3 : kitOne K (.ref C0) (.ref C3) = some false)
  (xt0 : findIn K (.ref C0) "__getattr__" = some none) (xb0 : mroIn K C0 (.type "BaseException") = some true)
  (xa1 : nsIn K mainGlobals "NoTable" = some (some (.ref C1))) (xg1 : findIn K (.ref C1) "__getattribute__" = some (some (.builtin "BaseException.__getattribute__"))) (xh1 : hasDictIn K C1 = true) (xf1 : findIn K (.ref C1) "__class__" = some (some (.builtin "object.__class__"))) (xm1 : mroIn K C1 (.type "object") = some true)
  (xe1 : excIn K C1 [.type "ValueError", .type "Exception", .type "BaseException", .type "object"] "ValueError.__new__" = true) (xv1 : kitOne K (.ref C1) (.type "ValueError") = some true)
  (xk1_0 : kitOne K (.ref C1) (.ref C0) = some true) (xx1_0 : exmOne K (.ref C1) (.ref C0) = some true)
  (xk1_1 : kitOne K (.ref C1) (.ref C1) = some true) (xx1_1 : exmOne K (.ref C1) (.ref C1) = some true)
  (xk1_2 : kitOne K (.ref C1) (.ref C2) = some false)
  (xk1_3 : kitOne K (.ref C1) (.ref C3) = some false)
  (xt1 : findIn K (.ref C1) "__getattr__" = some none) (xb1 : mroIn K C1 (.type "BaseException") = some true)
  (xa2 : nsIn K mainGlobals "NoCard" = some (some (.ref C2))) (xg2 : findIn K (.ref C2) "__getattribute__" = some (some (.builtin "BaseException.__getattribute__"))) (xh2 : hasDictIn K C2 = true) (xf2 : findIn K (.ref C2) "__class__" = some (some (.builtin "object.__class__"))) (xm2 : mroIn K C2 (.type "object") = some true)
  (xe2 : excIn K C2 [.type "ValueError", .type "Exception", .type "BaseException", .type "object"] "ValueError.__new__" = true) (xv2 : kitOne K (.ref C2) (.type "ValueError") = some true)
  (xk2_0 : kitOne K (.ref C2) (.ref C0) = some true) (xx2_0 : exmOne K (.ref C2) (.ref C0) = some true)
  (xk2_1 : kitOne K (.ref C2) (.ref C1) = some false)
  (xk2_2 : kitOne K (.ref C2) (.ref C2) = some true) (xx2_2 : exmOne K (.ref C2) (.ref C2) = some true)
  (xk2_3 : kitOne K (.ref C2) (.ref C3) = some false)
  (xt2 : findIn K (.ref C2) "__getattr__" = some none) (xb2 : mroIn K C2 (.type "BaseException") = some true)
  (xa3 : nsIn K mainGlobals "NoPlan" = some (some (.ref C3))) (xg3 : findIn K (.ref C3) "__getattribute__" = some (some (.builtin "BaseException.__getattribute__"))) (xh3 : hasDictIn K C3 = true) (xf3 : findIn K (.ref C3) "__class__" = some (some (.builtin "object.__class__"))) (xm3 : mroIn K C3 (.type "object") = some true)
  (xe3 : excIn K C3 [.type "ValueError", .type "Exception", .type "BaseException", .type "object"] "ValueError.__new__" = true) (xv3 : kitOne K (.ref C3) (.type "ValueError") = some true)
  (xk3_0 : kitOne K (.ref C3) (.ref C0) = some true) (xx3_0 : exmOne K (.ref C3) (.ref C0) = some true)
  (xk3_1 : kitOne K (.ref C3) (.ref C1) = some false)
  (xk3_2 : kitOne K (.ref C3) (.ref C2) = some false)
  (xk3_3 : kitOne K (.ref C3) (.ref C3) = some true) (xx3_3 : exmOne K (.ref C3) (.ref C3) = some true)
  (xt3 : findIn K (.ref C3) "__getattr__" = some none) (xb3 : mroIn K C3 (.type "BaseException") = some true)
  (xs0 : specialIn K (.builtin "object.__class__") "__get__" = some (some (.builtin "getset_descriptor.__get__"))) (xs1 : takesIn K (.builtin "object.__class__") = some true)
  : ∃ fd : FuncData, (∀ (s : Shared) (v : Value), BindsTo s fd ⟨[v], []⟩ [("_law_script", v)]) /\ ∀ base : Heap, K.In base -> base.Ns mainGlobals mg -> FnOk l.prog w K mg base CX0 60 fa fd ["_law_script"] (spS K) := by
 have e := hfa.symm.trans (mg_of X Ns a24)
 cases e
 have S0 := q0l X Ns ok0 a0 l0 c0 k0 λ _ _ _ _ _ _ us hl => by obtain ⟨_, _, _, rfl⟩ := ln3 hl; rfl
 have S1 := q0l X Ns ok1 a1 l1 c1 k1 λ _ _ _ _ _ _ us hl => by obtain ⟨_, rfl⟩ := ln1 hl; rfl
 have S2 := q0l X Ns ok2 a2 l2 c2 k2 λ _ _ _ _ _ _ us hl => by obtain ⟨_, _, rfl⟩ := ln2 hl; rfl
 have S3 := q0l X Ns ok3 a3 l3 c3 k3 λ _ _ _ _ _ _ us hl => by obtain ⟨_, _, rfl⟩ := ln2 hl; rfl
 have S4 := q0l X Ns ok4 a4 l4 c4 k4 λ _ _ _ _ _ _ us hl => by obtain ⟨_, _, _, rfl⟩ := ln3 hl; rfl
 have S5 := q0l X Ns ok5 a5 l5 c5 k5 λ _ _ _ _ _ _ us hl => by obtain ⟨_, _, _, rfl⟩ := ln3 hl; rfl
 have S6 := q0l X Ns ok6 a6 l6 c6 k6 λ _ _ _ _ _ _ us hl => by obtain ⟨_, _, _, _, rfl⟩ := ln4 hl; rfl
 have S7 := q0l X Ns ok7 a7 l7 c7 k7 λ _ _ _ _ _ _ us hl => by obtain ⟨_, _, rfl⟩ := ln2 hl; rfl
 have S8 := q0l X Ns ok8 a8 l8 c8 k8 λ _ _ _ _ _ _ us hl => by obtain ⟨_, _, _, _, rfl⟩ := ln4 hl; rfl
 have S9 := q0l X Ns ok9 a9 l9 c9 k9 λ _ _ _ _ _ _ us hl => by obtain ⟨_, _, rfl⟩ := ln2 hl; rfl
 have S10 := q0l X Ns ok10 a10 l10 c10 k10 λ _ _ _ _ _ _ us hl => by obtain ⟨_, rfl⟩ := ln1 hl; rfl
 have S11 := q0l X Ns ok11 a11 l11 c11 k11 λ _ _ _ _ _ _ us hl => by obtain ⟨_, _, rfl⟩ := ln2 hl; rfl
 have S12 := q0l X Ns ok12 a12 l12 c12 k12 λ _ _ _ _ _ _ us hl => by obtain ⟨_, _, rfl⟩ := ln2 hl; rfl
 have S13 := q0l X Ns ok13 a13 l13 c13 k13 λ _ _ _ _ _ _ us hl => by obtain ⟨_, _, _, rfl⟩ := ln3 hl; rfl
 have S14 := q0l X Ns ok14 a14 l14 c14 k14 λ _ _ _ _ _ _ us hl => by obtain ⟨_, rfl⟩ := ln1 hl; rfl
 have S15 := q0l X Ns ok15 a15 l15 c15 k15 λ _ _ _ _ _ _ us hl => by obtain ⟨_, _, _, rfl⟩ := ln3 hl; rfl
 have S16 := q0l X Ns ok16 a16 l16 c16 k16 λ _ _ _ _ _ _ us hl => by obtain ⟨_, _, rfl⟩ := ln2 hl; rfl
 have S17 := q0l X Ns ok17 a17 l17 c17 k17 λ _ _ _ _ _ _ us hl => by obtain ⟨_, _, _, rfl⟩ := ln3 hl; rfl
 have S18 := q0l X Ns ok18 a18 l18 c18 k18 λ _ _ _ _ _ _ us hl => by obtain ⟨_, _, rfl⟩ := ln2 hl; rfl
 have S19 := q0l X Ns ok19 a19 l19 c19 k19 λ _ _ _ _ _ _ us hl => by obtain ⟨_, _, rfl⟩ := ln2 hl; rfl
 have S20 := q0l X Ns ok20 a20 l20 c20 k20 λ _ _ _ _ _ _ us hl => by obtain ⟨_, _, _, _, rfl⟩ := ln4 hl; rfl
 have S21 := q0l X Ns ok21 a21 l21 c21 k21 λ _ _ _ _ _ _ us hl => by obtain ⟨_, _, _, rfl⟩ := ln3 hl; rfl
 have S22 := q0l X Ns ok22 a22 l22 c22 k22 λ _ _ _ _ _ _ us hl => by obtain ⟨_, _, _, _, rfl⟩ := ln4 hl; rfl
 have S23 := q0l X Ns ok23 a23 l23 c23 k23 λ _ _ _ _ _ _ us hl => by obtain ⟨_, _, _, _, rfl⟩ := ln4 hl; rfl
 have S24 := q0l X Ns ok24 a24 l24 c24 k24 λ _ _ _ _ _ _ us hl => by obtain ⟨_, rfl⟩ := ln1 hl; rfl
 refine ⟨_, λ s v => .of_eq rfl, λ base _ _ => q9D (T := T) (G := G) (fu := 1000) rfl (q0A S0 (q0A S1 (q0A S2 (q0A S3 (q0A S4 (q0A S5 (q0A S6 (q0A S7 (q0A S8 (q0A S9 (q0A S10 (q0A S11 (q0A S12 (q0A S13 (q0A S14 (q0A S15 (q0A S16 (q0A S17 (q0A S18 (q0A S19 (q0A S20 (q0A S21 (q0A S22 (q0A S23 (q0A S24 z3n))))))))))))))))))))))))) ?_ ?_ ?_ ?_ z1O (i := 24) rfl rfl S24 z2i⟩
 ·exact fmc (mg_none_of X Ns z0) (fmc (mg_none_of X Ns z1) (fmc (mg_none_of X Ns z2) (fmc (mg_none_of X Ns z3) (fmc (mg_none_of X Ns z4) (fmc (mg_none_of X Ns z5) (fmc (mg_none_of X Ns z6) (fmc (mg_none_of X Ns z7) (fmc (mg_none_of X Ns z8) (fmc (mg_none_of X Ns z9) (fmc (mg_none_of X Ns z10) (by intro x hx; cases hx)))))))))))
 ·refine ⟨q3F ⟨_, mg_of X Ns xa0, ⟨xg0, xt0, xb0, xh0, xf0, xs0, xs1, xm0⟩, ⟨_, _, _, _, PySem.F.excBase_ValueError, xe0⟩, (q0G (mg_of X Ns xa0) ⟨xk0_0, λ _ => xx0_0⟩ (q0G (mg_of X Ns xa1) ⟨xk0_1, λ z => nomatch z⟩ (q0G (mg_of X Ns xa2) ⟨xk0_2, λ z => nomatch z⟩ (q0G (mg_of X Ns xa3) ⟨xk0_3, λ z => nomatch z⟩ q4C)))), xv0⟩ (q3F ⟨_, mg_of X Ns xa1, ⟨xg1, xt1, xb1, xh1, xf1, xs0, xs1, xm1⟩, ⟨_, _, _, _, PySem.F.excBase_ValueError, xe1⟩, (q0G (mg_of X Ns xa0) ⟨xk1_0, λ _ => xx1_0⟩ (q0G (mg_of X Ns xa1) ⟨xk1_1, λ _ => xx1_1⟩ (q0G (mg_of X Ns xa2) ⟨xk1_2, λ z => nomatch z⟩ (q0G (mg_of X Ns xa3) ⟨xk1_3, λ z => nomatch z⟩ q4C)))), xv1⟩ (q3F ⟨_, mg_of X Ns xa2, ⟨xg2, xt2, xb2, xh2, xf2, xs0, xs1, xm2⟩, ⟨_, _, _, _, PySem.F.excBase_ValueError, xe2⟩, (q0G (mg_of X Ns xa0) ⟨xk2_0, λ _ => xx2_0⟩ (q0G (mg_of X Ns xa1) ⟨xk2_1, λ z => nomatch z⟩ (q0G (mg_of X Ns xa2) ⟨xk2_2, λ _ => xx2_2⟩ (q0G (mg_of X Ns xa3) ⟨xk2_3, λ z => nomatch z⟩ q4C)))), xv2⟩ (q3F ⟨_, mg_of X Ns xa3, ⟨xg3, xt3, xb3, xh3, xf3, xs0, xs1, xm3⟩, ⟨_, _, _, _, PySem.F.excBase_ValueError, xe3⟩, (q0G (mg_of X Ns xa0) ⟨xk3_0, λ _ => xx3_0⟩ (q0G (mg_of X Ns xa1) ⟨xk3_1, λ z => nomatch z⟩ (q0G (mg_of X Ns xa2) ⟨xk3_2, λ z => nomatch z⟩ (q0G (mg_of X Ns xa3) ⟨xk3_3, λ _ => xx3_3⟩ q4C)))), xv3⟩ (z1b)))), all_cons ⟨_, mg_of X Ns xa0⟩ (all_cons ⟨_, mg_of X Ns xa1⟩ (all_cons ⟨_, mg_of X Ns xa2⟩ (all_cons ⟨_, mg_of X Ns xa3⟩ (z1B))))⟩
 ·intro x d h
  exact z2y x d h
 ·intro x kvs h
  exact z1c x kvs h
end k61
open PySem PySem.W PyProof.Rows
set_option maxRecDepth 100000 in
set_option maxHeartbeats 0 in
theorem PySem.Challenge.cw_talkleast_k61_right_shares_holds : PySem.Challenge.rw_talkleast_k61_right_shares.Holds := by
 w_on; o_law; k_head; (case hw => w_witness2)
 k_fill
 refine L2.walkE (l := PySem.Challenge.rw_talkleast_k61_right_shares) (k := 60) (p := "_law_script") rfl rfl ⟨rfl, by decide, by decide⟩ (λ w h Y => PySem.W.kIn_of Y) ?F
 case F =>
  intro w mg fa h KX G hmg
  refine' k61.all_mk KX G hmg ?a0 ?l0 ?c0 ?k0 ?a1 ?l1 ?c1 ?k1 ?a2 ?l2 ?c2 ?k2 ?a3 ?l3 ?c3 ?k3 ?a4 ?l4 ?c4 ?k4 ?a5 ?l5 ?c5 ?k5 ?a6 ?l6 ?c6 ?k6 ?a7 ?l7 ?c7 ?k7 ?a8 ?l8 ?c8 ?k8 ?a9 ?l9 ?c9 ?k9 ?a10 ?l10 ?c10 ?k10 ?a11 ?l11 ?c11 ?k11 ?a12 ?l12 ?c12 ?k12 ?a13 ?l13 ?c13 ?k13 ?a14 ?l14 ?c14 ?k14 ?a15 ?l15 ?c15 ?k15 ?a16 ?l16 ?c16 ?k16 ?a17 ?l17 ?c17 ?k17 ?a18 ?l18 ?c18 ?k18 ?a19 ?l19 ?c19 ?k19 ?a20 ?l20 ?c20 ?k20 ?a21 ?l21 ?c21 ?k21 ?a22 ?l22 ?c22 ?k22 ?a23 ?l23 ?c23 ?k23 ?a24 ?l24 ?c24 ?k24 ?z0 ?z1 ?z2 ?z3 ?z4 ?z5 ?z6 ?z7 ?z8 ?z9 ?z10 ?xa0 ?xg0 ?xh0 ?xf0 ?xm0 ?xe0 ?xv0 ?xk0_0 ?xx0_0 ?xk0_1 ?xk0_2 ?xk0_3 ?xt0 ?xb0 ?xa1 ?xg1 ?xh1 ?xf1 ?xm1 ?xe1 ?xv1 ?xk1_0 ?xx1_0 ?xk1_1 ?xx1_1 ?xk1_2 ?xk1_3 ?xt1 ?xb1 ?xa2 ?xg2 ?xh2 ?xf2 ?xm2 ?xe2 ?xv2 ?xk2_0 ?xx2_0 ?xk2_1 ?xk2_2 ?xx2_2 ?xk2_3 ?xt2 ?xb2 ?xa3 ?xg3 ?xh3 ?xf3 ?xm3 ?xe3 ?xv3 ?xk3_0 ?xx3_0 ?xk3_1 ?xk3_2 ?xk3_3 ?xx3_3 ?xt3 ?xb3 ?xs0 ?xs1
  (case a0 => k_is); (case l0 => k_is); (case c0 => k_is); (case k0 => k_is)
  (case a1 => k_is); (case l1 => k_is); (case c1 => k_is); (case k1 => k_is)
  (case a2 => k_is); (case l2 => k_is); (case c2 => k_is); (case k2 => k_is)
  (case a3 => k_is); (case l3 => k_is); (case c3 => k_is); (case k3 => k_is)
  (case a4 => k_is); (case l4 => k_is); (case c4 => k_is); (case k4 => k_is)
  (case a5 => k_is); (case l5 => k_is); (case c5 => k_is); (case k5 => k_is)
  (case a6 => k_is); (case l6 => k_is); (case c6 => k_is); (case k6 => k_is)
  (case a7 => k_is); (case l7 => k_is); (case c7 => k_is); (case k7 => k_is)
  (case a8 => k_is); (case l8 => k_is); (case c8 => k_is); (case k8 => k_is)
  (case a9 => k_is); (case l9 => k_is); (case c9 => k_is); (case k9 => k_is)
  (case a10 => k_is); (case l10 => k_is); (case c10 => k_is); (case k10 => k_is)
  (case a11 => k_is); (case l11 => k_is); (case c11 => k_is); (case k11 => k_is)
  (case a12 => k_is); (case l12 => k_is); (case c12 => k_is); (case k12 => k_is)
  (case a13 => k_is); (case l13 => k_is); (case c13 => k_is); (case k13 => k_is)
  (case a14 => k_is); (case l14 => k_is); (case c14 => k_is); (case k14 => k_is)
  (case a15 => k_is); (case l15 => k_is); (case c15 => k_is); (case k15 => k_is)
  (case a16 => k_is); (case l16 => k_is); (case c16 => k_is); (case k16 => k_is)
  (case a17 => k_is); (case l17 => k_is); (case c17 => k_is); (case k17 => k_is)
  (case a18 => k_is); (case l18 => k_is); (case c18 => k_is); (case k18 => k_is)
  (case a19 => k_is); (case l19 => k_is); (case c19 => k_is); (case k19 => k_is)
  (case a20 => k_is); (case l20 => k_is); (case c20 => k_is); (case k20 => k_is)
  (case a21 => k_is); (case l21 => k_is); (case c21 => k_is); (case k21 => k_is)
  (case a22 => k_is); (case l22 => k_is); (case c22 => k_is); (case k22 => k_is)
  (case a23 => k_is); (case l23 => k_is); (case c23 => k_is); (case k23 => k_is)
  (case a24 => k_is); (case l24 => k_is); (case c24 => k_is); (case k24 => k_is)
  (case z0 => k_is)
  (case z1 => k_is)
  (case z2 => k_is)
  (case z3 => k_is)
  (case z4 => k_is)
  (case z5 => k_is)
  (case z6 => k_is)
  (case z7 => k_is)
  (case z8 => k_is)
  (case z9 => k_is)
  (case z10 => k_is)
  (case xa0 => k_is); (case xg0 => k_is); (case xh0 => k_is); (case xf0 => k_is); (case xm0 => k_is); (case xt0 => k_is); (case xb0 => k_is)
  (case xa1 => k_is); (case xg1 => k_is); (case xh1 => k_is); (case xf1 => k_is); (case xm1 => k_is); (case xt1 => k_is); (case xb1 => k_is)
  (case xa2 => k_is); (case xg2 => k_is); (case xh2 => k_is); (case xf2 => k_is); (case xm2 => k_is); (case xt2 => k_is); (case xb2 => k_is)
  (case xa3 => k_is); (case xg3 => k_is); (case xh3 => k_is); (case xf3 => k_is); (case xm3 => k_is); (case xt3 => k_is); (case xb3 => k_is)
  (case xe0 => kernel_rfl); (case xv0 => kernel_rfl)
  (case xk0_0 => kernel_rfl); (case xx0_0 => kernel_rfl)
  (case xk0_1 => kernel_rfl)
  (case xk0_2 => kernel_rfl)
  (case xk0_3 => kernel_rfl)
  (case xe1 => kernel_rfl); (case xv1 => kernel_rfl)
  (case xk1_0 => kernel_rfl); (case xx1_0 => kernel_rfl)
  (case xk1_1 => kernel_rfl); (case xx1_1 => kernel_rfl)
  (case xk1_2 => kernel_rfl)
  (case xk1_3 => kernel_rfl)
  (case xe2 => kernel_rfl); (case xv2 => kernel_rfl)
  (case xk2_0 => kernel_rfl); (case xx2_0 => kernel_rfl)
  (case xk2_1 => kernel_rfl)
  (case xk2_2 => kernel_rfl); (case xx2_2 => kernel_rfl)
  (case xk2_3 => kernel_rfl)
  (case xe3 => kernel_rfl); (case xv3 => kernel_rfl)
  (case xk3_0 => kernel_rfl); (case xx3_0 => kernel_rfl)
  (case xk3_1 => kernel_rfl)
  (case xk3_2 => kernel_rfl)
  (case xk3_3 => kernel_rfl); (case xx3_3 => kernel_rfl)
  (case xs0 => k_is); (case xs1 => k_is)
end
